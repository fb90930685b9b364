// Package basis has what a grid file, EXCELL and MOLHPE do alike: which configs may be, how their buckets are held and read.
package basis

import (
	"slices"

	"cadastre/api"
	"cadastre/bucket"
	"cadastre/key"
	"cadastre/own"
)

// What a config may have.
const (
	leastCap   = 2
	mostCap    = 16
	leastPages = 4
	mostPages  = 999
)

// CellsToPage is how many cells of a directory go on one page.
const CellsToPage = 100

// Reads is how much was read.
type Reads struct {
	Pages   int // of the directory
	Buckets int
}

// May is whether a config may be.
func May(c api.Config) bool {
	return c.Dim >= 1 && c.Dim <= api.MaxDim && c.Cap >= leastCap && c.Cap <= mostCap && c.Pages >= leastPages && c.Pages <= mostPages
}

// Begun is how many pages so many things begin, at so many to a page.
func Begun(n int, toPage int) int { return (n + toPage - 1) / toPage }

// Fit is whether all buckets may be, of a config.
func Fit(c api.Config, buckets [][]api.Record) bool {
	return !slices.ContainsFunc(buckets, func(l []api.Record) bool {
		_, e := bucket.Encode(l, c.Dim, c.Cap)
		return e != api.OK
	})
}

// Placed is whether each record is in the bucket that its point's number tells.
func Placed(buckets [][]api.Record, number func(k api.Key) int) bool {
	for n, l := range buckets {
		if slices.ContainsFunc(l, func(r api.Record) bool { return number(r.Key) != n }) {
			return false
		}
	}
	return true
}

// Get is the Data of a point in its bucket.
func Get(l []api.Record, k api.Key) (string, api.Errno) {
	i, is := bucket.Find(l, k)
	if !is {
		return "", api.NotFound
	}
	return l[i].Data, api.OK
}

// Empty is whether there is no record.
func Empty(buckets [][]api.Record) bool {
	return !slices.ContainsFunc(buckets, func(l []api.Record) bool { return len(l) > 0 })
}

// Within are copies of those records of buckets that are in a box, in their order.
func Within(buckets [][]api.Record, b api.Box) []api.Record {
	var in []api.Record
	for _, l := range buckets {
		for _, r := range l {
			if key.In(r.Key, b) {
				in = append(in, r)
			}
		}
	}
	slices.SortFunc(in, func(a api.Record, b api.Record) int { return key.Compare(a.Key, b.Key) })
	return own.Records(in)
}
