// Package own makes copies that share nothing with what they are copies of, for all layers that keep records or tell them.
package own

import (
	"slices"
	"strings"

	"cadastre/api"
)

// Record is a copy of one; its Data is, too: it may be a piece of a longer text, which is not to be kept.
func Record(r api.Record) api.Record {
	return api.Record{Key: slices.Clone(r.Key), Data: strings.Clone(r.Data)}
}

// Records are copies, no two of which share anything.
func Records(l []api.Record) []api.Record {
	out := make([]api.Record, len(l))
	for i, r := range l {
		out[i] = Record(r)
	}
	return out
}

// Lists are copies of lists of records, likewise.
func Lists(l [][]api.Record) [][]api.Record {
	out := make([][]api.Record, len(l))
	for i, records := range l {
		out[i] = Records(records)
	}
	return out
}
