package store_test

import (
	"fmt"
	"maps"
	"math/rand"
	"slices"
	"strings"
	"testing"

	"cadastre/api"
	"cadastre/check"
	"cadastre/disk"
	"cadastre/request"
	"cadastre/store"
)

func variants() []int { return []int{api.Grid, api.Excell, api.Molhpe} }

func conf(variant int, dim int, cap int, pages int) api.Config {
	return api.Config{Variant: variant, Dim: dim, Cap: cap, Pages: pages}
}

func rec(data string, k ...uint32) api.Record { return api.Record{Key: k, Data: data} }

// The requests in short.
func put(data string, k ...uint32) request.Request {
	return request.Request{Do: request.Put, Key: k, Data: data}
}

func del(k ...uint32) request.Request { return request.Request{Do: request.Delete, Key: k} }

func get(k ...uint32) request.Request { return request.Request{Do: request.Get, Key: k} }

func window(low api.Key, high api.Key) request.Request {
	return request.Request{Do: request.Window, Box: api.Box{Low: low, High: high}}
}

func load(l ...api.Record) request.Request { return request.Request{Do: request.Load, Records: l} }

func plainly(do int) request.Request { return request.Request{Do: do} }

// everything is the Partial of no coordinates.
func everything() request.Request { return plainly(request.Partial) }

func create(t *testing.T, c api.Config, log int) *store.Store {
	t.Helper()
	s, e := store.Create(c, log)
	if s == nil || e != api.OK {
		t.Fatalf("Create of %+v, %d: %v, %d", c, log, s != nil, e)
	}
	return s
}

func open(t *testing.T, d *disk.Disk, log int) *store.Store {
	t.Helper()
	s, e := store.Open(d, log)
	if s == nil || e != api.OK {
		t.Fatalf("Open of %d pages, %d: %v, %d", d.Size(), log, s != nil, e)
	}
	return s
}

func of(t *testing.T, image []string) *disk.Disk {
	t.Helper()
	d, e := disk.Of(image)
	if e != api.OK {
		t.Fatalf("disk.Of %d pages: %d", len(image), e)
	}
	return d
}

// does expects that a request tells no error, and is what it answers.
func does(t *testing.T, s *store.Store, r request.Request) store.Answer {
	t.Helper()
	a, e := s.Do(r)
	if e != api.OK {
		t.Fatalf("Do %s: %d", shown(r), e)
	}
	return a
}

// tells expects of a request that error, and nothing beside it but an N.
func tells(t *testing.T, s *store.Store, r request.Request, n int, want api.Errno, what string) {
	t.Helper()
	if a, e := s.Do(r); e != want || !same(a, store.Answer{N: n}) {
		t.Errorf("Do %s, %s: %+v, %d, want %d, %d", shown(r), what, a, e, n, want)
	}
}

// shown is a request as a fault is told of it.
func shown(r request.Request) string {
	return fmt.Sprintf("{%d %v %q %v %v %d, %d Records}", r.Do, r.Key, r.Data, r.Box, r.At, r.Most, len(r.Records))
}

// same is whether two answers are.
func same(a store.Answer, b store.Answer) bool {
	return a.Data == b.Data && a.N == b.N && sameRecords(a.Records, b.Records)
}

func sameRecords(a []api.Record, b []api.Record) bool {
	return slices.EqualFunc(a, b, func(a api.Record, b api.Record) bool {
		return slices.Equal(a.Key, b.Key) && a.Data == b.Data
	})
}

// data are the Data of records, one behind the other.
func data(l []api.Record) string {
	var out strings.Builder
	for _, r := range l {
		out.WriteString(r.Data)
	}
	return out.String()
}

// point is a Key that a map takes.
type point [6]uint32

// plain is a map of points, as the document says it.
type plain map[point]string

func pointOf(k api.Key) point {
	var p point
	copy(p[:], k)
	return p
}

// plainOf is one of records.
func plainOf(l []api.Record) plain {
	out := plain{}
	for _, r := range l {
		out[pointOf(r.Key)] = r.Data
	}
	return out
}

// all are its records in their order: points of as many coordinates, by the first one that is not the same.
func (m plain) all(dim int) []api.Record {
	var out []api.Record
	for p, s := range m {
		out = append(out, api.Record{Key: slices.Clone(p[:dim]), Data: s})
	}
	slices.SortFunc(out, func(a api.Record, b api.Record) int { return slices.Compare(a.Key, b.Key) })
	return out
}

// within are those of which each coordinate is as it is asked for.
func (m plain) within(dim int, in func(at int, n uint32) bool) []api.Record {
	return slices.DeleteFunc(m.all(dim), func(r api.Record) bool {
		for at, n := range r.Key {
			if !in(at, n) {
				return true
			}
		}
		return false
	})
}

// near are those that are nearest to a point, the nearest one first.
func (m plain) near(k api.Key, most int) []api.Record {
	far := func(r api.Record) int64 {
		var out int64
		for i, n := range r.Key {
			d := int64(n) - int64(k[i])
			out = max(out, d, -d)
		}
		return out
	}
	l := m.all(len(k))
	slices.SortStableFunc(l, func(a api.Record, b api.Record) int {
		switch x, y := far(a), far(b); {
		case x < y:
			return -1
		case x > y:
			return 1
		}
		return 0
	})
	return l[:min(most, len(l))]
}

// model is a store as the document says it, of a disk that has no end and never dies.
type model struct {
	dim    int
	now    plain
	inside plain // nil, if it is in no transaction
	closed bool
}

// asked is the map that requests are asked of.
func (m *model) asked() plain {
	if m.inside != nil {
		return m.inside
	}
	return m.now
}

// mayTell is whether a request may tell an error that hangs on the room there is.
func (m *model) mayTell(do int, e api.Errno) bool {
	puts := do == request.Put || do == request.Load
	switch e {
	case api.DiskFull, api.DirectoryLimit:
		return puts
	case api.JournalFull:
		return do == request.Commit || (puts || do == request.Delete) && m.inside == nil
	}
	return false
}

// do is what a request is to answer, one that may be; told is what a store has told of it. Of room there is as much as that tells.
func (m *model) do(r request.Request, told api.Errno) (store.Answer, api.Errno) {
	var a store.Answer
	if request.Check(r, m.dim, !m.closed, m.inside != nil) != api.OK {
		return a, api.BadRequest
	}
	if m.mayTell(r.Do, told) && !(r.Do == request.Delete && !has(m.now, r.Key)) {
		if r.Do == request.Commit {
			m.inside = nil
		}
		return a, told
	}
	at := m.asked()
	switch r.Do {
	case request.Put:
		at[pointOf(r.Key)] = r.Data
	case request.Delete:
		if !has(at, r.Key) {
			return a, api.NotFound
		}
		delete(at, pointOf(r.Key))
	case request.Get:
		if !has(at, r.Key) {
			return a, api.NotFound
		}
		a.Data = at[pointOf(r.Key)]
	case request.Window:
		a.Records = at.within(m.dim, func(i int, n uint32) bool { return r.Box.Low[i] <= n && n <= r.Box.High[i] })
	case request.Count:
		a.N = len(at.within(m.dim, func(i int, n uint32) bool { return r.Box.Low[i] <= n && n <= r.Box.High[i] }))
	case request.Partial:
		a.Records = at.within(m.dim, func(i int, n uint32) bool {
			which := slices.Index(r.At, i)
			return which < 0 || r.Key[which] == n
		})
	case request.Near:
		a.Records = at.near(r.Key, r.Most)
	case request.Load:
		maps.Copy(at, plainOf(r.Records))
		a.N = len(r.Records)
	case request.Begin:
		m.inside = maps.Clone(m.now)
	case request.Commit:
		m.now, m.inside = m.inside, nil
	case request.Abort:
		m.inside = nil
	case request.Close:
		m.inside, m.closed = nil, true
	}
	return a, api.OK
}

func has(m plain, k api.Key) bool {
	_, is := m[pointOf(k)]
	return is
}

// both does a request of a store and of a model, and expects of both the same.
func both(t *testing.T, s *store.Store, m *model, r request.Request) (store.Answer, api.Errno) {
	t.Helper()
	have, e := s.Do(r)
	want, f := m.do(r, e)
	if e != f {
		t.Fatalf("Do %s: %d, want %d", shown(r), e, f)
	}
	if r.Do == request.Load && m.mayTell(r.Do, e) {
		if e == api.JournalFull && have.N != len(r.Records) || e != api.JournalFull && (have.N < 0 || have.N >= len(r.Records)) {
			t.Fatalf("Do %s: %d, N %d", shown(r), e, have.N)
		}
		want.N = have.N
	}
	if !same(have, want) {
		t.Fatalf("Do %s: %+v, %d, want %+v", shown(r), have, e, want)
	}
	return have, e
}

// whole expects of a disk that the checker tells no error, and that it has just these records.
func whole(t *testing.T, d *disk.Disk, log int, c api.Config, m plain, what string) {
	t.Helper()
	r, e := check.Check(d.Image(), log)
	if e != api.OK || r.Config != c || r.Records != len(m) {
		t.Fatalf("%s: Check: %+v, %d, want %+v of %d records", what, r, e, c, len(m))
	}
	if l, e := check.Map(d.Image(), log); e != api.OK || !sameRecords(l, m.all(c.Dim)) {
		t.Fatalf("%s: Map: %v, %d, want %v", what, l, e, m.all(c.Dim))
	}
}

// untouched expects that what is called neither writes nor flushes.
func untouched(t *testing.T, d *disk.Disk, what string, call func()) {
	t.Helper()
	image, waits := d.Image(), d.Waits()
	_, writes, flushes := d.Counts()
	call()
	_, w, f := d.Counts()
	if w != writes || f != flushes || !slices.Equal(d.Image(), image) || !slices.Equal(d.Waits(), waits) {
		t.Fatalf("%s: %d writes, %d flushes", what, w-writes, f-flushes)
	}
}

// maker makes requests by chance.
type maker struct {
	*rand.Rand
	dim  int
	near bool // whether points are near one another
	wide bool // whether they are far from one another
	most int  // of Records
}

// coordinate is one of a few, so that points come again, or, seldom, any.
func (m *maker) coordinate() uint32 {
	switch {
	case m.near:
		return uint32(m.Intn(300))
	case m.Intn(10) == 0:
		return m.Uint32()
	case m.wide:
		return uint32(m.Intn(16)) << 28
	}
	return uint32(m.Intn(4))<<30 + uint32(m.Intn(4))<<20
}

func (m *maker) key() api.Key {
	k := make(api.Key, m.dim)
	for i := range k {
		k[i] = m.coordinate()
	}
	return k
}

func (m *maker) data() string { return strings.Repeat(string(rune('a'+m.Intn(26))), m.Intn(41)) }

func (m *maker) box() api.Box {
	b := api.Box{Low: m.key(), High: m.key()}
	for i := range b.Low {
		if b.Low[i] > b.High[i] && m.Intn(20) > 0 {
			b.Low[i], b.High[i] = b.High[i], b.Low[i]
		}
	}
	return b
}

func (m *maker) records() []api.Record {
	var out []api.Record
	for range m.Intn(m.most + 1) {
		out = append(out, api.Record{Key: m.key(), Data: m.data()})
	}
	return out
}

// request is one of a kind, that may be but seldom may not be.
func (m *maker) request(do int) request.Request {
	r := request.Request{Do: do}
	switch do {
	case request.Put:
		r.Key, r.Data = m.key(), m.data()
	case request.Delete, request.Get:
		r.Key = m.key()
	case request.Window, request.Count:
		r.Box = m.box()
	case request.Partial:
		for at, n := range m.key() {
			if m.Intn(2) == 0 {
				r.At, r.Key = append(r.At, at), append(r.Key, n)
			}
		}
	case request.Near:
		r.Key, r.Most = m.key(), m.Intn(20)
	case request.Load:
		r.Records = m.records()
	}
	if m.Intn(40) == 0 {
		r.Key, r.Most, r.Data = append(r.Key, 1), -1, strings.Repeat("d", 41)
		r.Records = append(r.Records, api.Record{})
		r.Box.High = nil
	}
	return r
}

// any is one of any kind; those that end something are seldom.
func (m *maker) any() request.Request {
	switch n := m.Intn(100); {
	case n < 40:
		return m.request(request.Put)
	case n < 60:
		return m.request(request.Delete)
	case n < 64:
		return m.request(request.Begin)
	case n < 67:
		return m.request(request.Commit)
	case n < 69:
		return m.request(request.Abort)
	case n < 70:
		return m.request(13 * m.Intn(2))
	case n < 73:
		return m.request(request.Load)
	}
	return m.request(request.Get + m.Intn(5))
}
