package atlas_test

import (
	"math"
	"math/rand"
	"slices"
	"strings"
	"testing"
	"unsafe"

	"cadastre/api"
	"cadastre/atlas"
)

const most = math.MaxUint32

// wrongDims are numbers of coordinates that no point may have.
var wrongDims = []int{math.MinInt, -6, -1, 0, 7, 8, 100, 1<<32 + 1, math.MaxInt}

func create(t *testing.T, dim int) *atlas.Atlas {
	t.Helper()
	a, e := atlas.New(dim)
	if a == nil || e != api.OK {
		t.Fatalf("New(%d): %v, %d", dim, a, e)
	}
	return a
}

func put(t *testing.T, a *atlas.Atlas, data string, k ...uint32) {
	t.Helper()
	if e := a.Put(api.Record{Key: k, Data: data}); e != api.OK {
		t.Fatalf("Put(%v, %q): %d", k, data, e)
	}
}

func remove(t *testing.T, a *atlas.Atlas, k ...uint32) {
	t.Helper()
	if e := a.Delete(k); e != api.OK {
		t.Fatalf("Delete(%v): %d", k, e)
	}
}

// rec is a record, written short.
func rec(data string, k ...uint32) api.Record { return api.Record{Key: k, Data: data} }

func same(a []api.Record, b []api.Record) bool {
	return slices.EqualFunc(a, b, func(a api.Record, b api.Record) bool {
		return slices.Equal(a.Key, b.Key) && a.Data == b.Data
	})
}

// holds expects of an atlas just these records, in this order.
func holds(t *testing.T, a *atlas.Atlas, want ...api.Record) {
	t.Helper()
	if l := a.All(); !same(l, want) {
		t.Errorf("All: %v, want %v", l, want)
	}
	if n := a.Len(); n != len(want) {
		t.Errorf("Len: %d, want %d", n, len(want))
	}
	for _, r := range want {
		if s, e := a.Get(r.Key); s != r.Data || e != api.OK {
			t.Errorf("Get(%v): %q, %d, want %q", r.Key, s, e, r.Data)
		}
	}
}

// shows expects of a window these records, and of Count how many they are.
func shows(t *testing.T, a *atlas.Atlas, b api.Box, want ...api.Record) {
	t.Helper()
	if l, e := a.Window(b); e != api.OK || !same(l, want) {
		t.Errorf("Window(%v): %v, %d, want %v", b, l, e, want)
	}
	if n, e := a.Count(b); e != api.OK || n != len(want) {
		t.Errorf("Count(%v): %d, %d, want %d", b, n, e, len(want))
	}
}

// P9.1
func TestCheck(t *testing.T) {
	for size := range 9 {
		for _, long := range []int{0, 1, 39, 40, 41, 42, 255, 256, 296, 4096} {
			r := api.Record{Key: make(api.Key, size), Data: strings.Repeat("x", long)}
			for dim := -2; dim <= 10; dim++ {
				want := api.BadRequest
				if dim >= 1 && dim <= 6 && size == dim && long <= 40 {
					want = api.OK
				}
				if e := atlas.Check(r, dim); e != want {
					t.Errorf("Check of %d coordinates and %d bytes, %d: %d, want %d", size, long, dim, e, want)
				}
			}
			for _, dim := range wrongDims {
				if e := atlas.Check(r, dim); e != api.BadRequest {
					t.Errorf("Check of %d coordinates, %d: %d", size, dim, e)
				}
			}
		}
	}
	if e := atlas.Check(api.Record{}, 0); e != api.BadRequest {
		t.Errorf("Check of an empty record: %d", e)
	}
	if e := atlas.Check(rec(strings.Repeat("é", 20), most), 1); e != api.OK {
		t.Errorf("Check of 40 bytes that are 20 letters: %d", e)
	}
	if e := atlas.Check(rec(strings.Repeat("é", 21), most), 1); e != api.BadRequest {
		t.Errorf("Check of 42 bytes that are 21 letters: %d", e)
	}
}

// P9.1
func TestNew(t *testing.T) {
	for dim := 1; dim <= 6; dim++ {
		a := create(t, dim)
		holds(t, a)
		for size := range 9 {
			k := make(api.Key, size)
			want := api.BadRequest
			if size == dim {
				want = api.NotFound
			}
			if _, e := a.Get(k); e != want {
				t.Errorf("of %d coordinates, Get(%v): %d, want %d", dim, k, e, want)
			}
		}
	}
	for _, dim := range wrongDims {
		if a, e := atlas.New(dim); a != nil || e != api.BadRequest {
			t.Errorf("New(%d): %v, %d", dim, a, e)
		}
	}
}

// keys are some of all lengths.
func keys() []api.Key {
	out := []api.Key{nil, {}}
	for dim := 1; dim <= 8; dim++ {
		out = append(out, make(api.Key, dim), slices.Repeat(api.Key{most}, dim))
	}
	return out
}

// refusesAll expects that nothing may be asked, as of an atlas without coordinates.
func refusesAll(t *testing.T, a *atlas.Atlas) {
	t.Helper()
	for _, k := range keys() {
		if e := a.Put(api.Record{Key: k, Data: "x"}); e != api.BadRequest {
			t.Errorf("Put(%v): %d", k, e)
		}
		if e := a.Delete(k); e != api.BadRequest {
			t.Errorf("Delete(%v): %d", k, e)
		}
		if s, e := a.Get(k); s != "" || e != api.BadRequest {
			t.Errorf("Get(%v): %q, %d", k, s, e)
		}
		if l, e := a.Window(api.Box{Low: k, High: k}); len(l) != 0 || e != api.BadRequest {
			t.Errorf("Window(%v): %v, %d", k, l, e)
		}
		if n, e := a.Count(api.Box{Low: k, High: k}); n != 0 || e != api.BadRequest {
			t.Errorf("Count(%v): %d, %d", k, n, e)
		}
	}
	if len(a.All()) != 0 || a.Len() != 0 {
		t.Errorf("there are records: %v, %d", a.All(), a.Len())
	}
}

// P9.1, R1
func TestNil(t *testing.T) {
	var a *atlas.Atlas
	refusesAll(t, a)
	if c := a.Copy(); c != nil {
		t.Errorf("Copy of nil: %v", c)
	}
}

// R1: an atlas that New did not make has points of no coordinates.
func TestZero(t *testing.T) {
	a := new(atlas.Atlas)
	refusesAll(t, a)
	refusesAll(t, a.Copy())
}

// P9.2
func TestPut(t *testing.T) {
	a := create(t, 1)
	put(t, a, "x", 5)
	holds(t, a, rec("x", 5))
	put(t, a, "later", 5)
	holds(t, a, rec("later", 5))
	put(t, a, "", most)
	put(t, a, strings.Repeat("z", 40), 0)
	put(t, a, "y", 4)
	put(t, a, "w", 6)
	holds(t, a, rec(strings.Repeat("z", 40), 0), rec("y", 4), rec("later", 5), rec("w", 6), rec("", most))
	put(t, a, "", 5)
	holds(t, a, rec(strings.Repeat("z", 40), 0), rec("y", 4), rec("", 5), rec("w", 6), rec("", most))
}

// P9.1: in the order of the points, by the first coordinate that is not the same.
func TestOrder(t *testing.T) {
	a := create(t, 3)
	put(t, a, "f", 2, 0, 0)
	put(t, a, "a", 0, 0, most)
	put(t, a, "d", 1, 1, 0)
	put(t, a, "c", 1, 0, 1)
	put(t, a, "b", 1, 0, 0)
	put(t, a, "e", 1, 1<<31, 0)
	holds(t, a, rec("a", 0, 0, most), rec("b", 1, 0, 0), rec("c", 1, 0, 1), rec("d", 1, 1, 0), rec("e", 1, 1<<31, 0), rec("f", 2, 0, 0))
}

// P9.2, R3: what may not be is refused, and nothing is changed.
func TestRefuses(t *testing.T) {
	for dim := 1; dim <= 6; dim++ {
		a := create(t, dim)
		first := slices.Repeat(api.Key{7}, dim)
		put(t, a, "x", first...)
		for size := range 9 {
			k := slices.Repeat(api.Key{7}, size)
			if size == dim {
				if e := a.Put(api.Record{Key: k, Data: strings.Repeat("x", 41)}); e != api.BadRequest {
					t.Errorf("Put of 41 bytes: %d", e)
				}
				continue
			}
			if e := a.Put(api.Record{Key: k, Data: "y"}); e != api.BadRequest {
				t.Errorf("of %d coordinates, Put(%v): %d", dim, k, e)
			}
			if e := a.Delete(k); e != api.BadRequest {
				t.Errorf("of %d coordinates, Delete(%v): %d", dim, k, e)
			}
			if s, e := a.Get(k); s != "" || e != api.BadRequest {
				t.Errorf("of %d coordinates, Get(%v): %q, %d", dim, k, s, e)
			}
		}
		holds(t, a, api.Record{Key: first, Data: "x"})
	}
}

// P9.2
func TestDelete(t *testing.T) {
	a := create(t, 2)
	for i := range uint32(5) {
		put(t, a, "x", i, 10-i)
	}
	for _, k := range []api.Key{{0, 9}, {2, 7}, {2, 9}, {5, 5}, {most, most}, {0, 0}} {
		if e := a.Delete(k); e != api.NotFound {
			t.Errorf("Delete(%v): %d", k, e)
		}
		if s, e := a.Get(k); s != "" || e != api.NotFound {
			t.Errorf("Get(%v): %q, %d", k, s, e)
		}
	}
	remove(t, a, 2, 8)
	holds(t, a, rec("x", 0, 10), rec("x", 1, 9), rec("x", 3, 7), rec("x", 4, 6))
	if e := a.Delete(api.Key{2, 8}); e != api.NotFound {
		t.Errorf("Delete again: %d", e)
	}
	remove(t, a, 0, 10)
	remove(t, a, 4, 6)
	holds(t, a, rec("x", 1, 9), rec("x", 3, 7))
	remove(t, a, 3, 7)
	remove(t, a, 1, 9)
	holds(t, a)
	put(t, a, "again", 2, 8)
	holds(t, a, rec("again", 2, 8))
}

// P9.3: by hand, with both ends.
func TestWindow(t *testing.T) {
	a := create(t, 2)
	box := func(a uint32, b uint32, c uint32, d uint32) api.Box {
		return api.Box{Low: api.Key{a, b}, High: api.Key{c, d}}
	}
	shows(t, a, box(0, 0, most, most))
	p, q, r, s := rec("p", 0, 5), rec("q", 3, 3), rec("r", 3, 9), rec("s", most, 0)
	for _, x := range []api.Record{r, s, p, q} {
		put(t, a, x.Data, x.Key...)
	}
	shows(t, a, box(0, 0, most, most), p, q, r, s)
	shows(t, a, box(0, 0, 3, 9), p, q, r)
	shows(t, a, box(0, 3, 3, 5), p, q)
	shows(t, a, box(3, 3, 3, 9), q, r)
	shows(t, a, box(3, 4, 3, 8))
	shows(t, a, box(3, 3, 3, 3), q)
	shows(t, a, box(1, 0, most, most), q, r, s)
	shows(t, a, box(1, 0, most, 4), q, s)
	shows(t, a, box(4, 0, most-1, most))
	shows(t, a, box(most, 0, most, 0), s)
	shows(t, a, box(0, 6, most, most), r)
}

// P9.3, R3: boxes that may not be.
func TestWindowRefuses(t *testing.T) {
	for dim := 1; dim <= 6; dim++ {
		a := create(t, dim)
		put(t, a, "x", make(api.Key, dim)...)
		refuse := func(b api.Box) {
			t.Helper()
			if l, e := a.Window(b); len(l) != 0 || e != api.BadRequest {
				t.Errorf("of %d coordinates, Window(%v): %v, %d", dim, b, l, e)
			}
			if n, e := a.Count(b); n != 0 || e != api.BadRequest {
				t.Errorf("of %d coordinates, Count(%v): %d, %d", dim, b, n, e)
			}
		}
		for low := range 9 {
			for high := range 9 {
				if low != dim || high != dim {
					refuse(api.Box{Low: make(api.Key, low), High: make(api.Key, high)})
				}
			}
		}
		for at := range dim {
			low := make(api.Key, dim)
			low[at] = 1
			refuse(api.Box{Low: low, High: make(api.Key, dim)})
		}
		shows(t, a, api.Box{Low: make(api.Key, dim), High: make(api.Key, dim)}, api.Record{Key: make(api.Key, dim), Data: "x"})
	}
}

// P9.1, R5
func TestCopyIsOfItsOwn(t *testing.T) {
	a := create(t, 1)
	put(t, a, "x", 1)
	put(t, a, "y", 2)
	c := a.Copy()
	holds(t, c, rec("x", 1), rec("y", 2))
	put(t, c, "z", 3)
	put(t, c, "later", 1)
	remove(t, a, 2)
	put(t, a, "w", 0)
	holds(t, a, rec("w", 0), rec("x", 1))
	holds(t, c, rec("later", 1), rec("y", 2), rec("z", 3))
	for range 3 { // in the place of one, and one gone, on each side: nothing needs new room
		c = a.Copy()
		put(t, c, "of the copy", 0)
		holds(t, a, rec("w", 0), rec("x", 1))
		remove(t, c, 0)
		put(t, c, "y", 2)
		holds(t, a, rec("w", 0), rec("x", 1))
		c = a.Copy()
		put(t, a, "w", 0)
		put(t, a, "other", 1)
		remove(t, a, 0)
		holds(t, c, rec("w", 0), rec("x", 1))
		put(t, a, "w", 0)
		put(t, a, "x", 1)
	}
	if e := c.Put(rec("x", 1, 2)); e != api.BadRequest {
		t.Errorf("Put of two coordinates into a copy of one: %d", e)
	}
	if d := create(t, 6).Copy(); d.Put(rec("x", 1, 2, 3, 4, 5, 6)) != api.OK {
		t.Error("a copy of six coordinates takes none")
	}
}

// R5: what is handed in is neither changed nor kept.
func TestNothingIsKept(t *testing.T) {
	a := create(t, 2)
	room := api.Key{1, 2, 3, 4}
	text := strings.Repeat("a long text ", 1000)
	r := api.Record{Key: room[:2], Data: text[:12]}
	a.Put(r)
	a.Put(api.Record{Key: room[2:], Data: text[:12]})
	a.Put(api.Record{Key: room[2:], Data: text[2:6]})
	a.Window(api.Box{Low: room[:2], High: room[2:]})
	a.Count(api.Box{Low: room[:2], High: room[2:]})
	a.Get(room[:2])
	a.Delete(room[1:3])
	if !slices.Equal(room, api.Key{1, 2, 3, 4}) || len(r.Key) != 2 || r.Data != "a long text " {
		t.Errorf("what was handed in has changed: %v, %v", room, r)
	}
	for i := range room {
		room[i] = 77
	}
	holds(t, a, rec("a long text ", 1, 2), rec("long", 3, 4))
	for _, x := range a.All() {
		at := uintptr(unsafe.Pointer(unsafe.StringData(x.Data)))
		if from := uintptr(unsafe.Pointer(unsafe.StringData(text))); at >= from && at < from+uintptr(len(text)) {
			t.Errorf("a piece of a long text is kept: %q", x.Data)
		}
	}
}

// R5: what is answered is new, its spare room too, and no two lists of one answer share any.
func TestAnswersAreNew(t *testing.T) {
	a := create(t, 2)
	for i := range uint32(9) {
		put(t, a, "x", i, i)
	}
	want := a.All()
	spoil := func(l []api.Record) {
		t.Helper()
		for i, r := range l {
			if !slices.Equal(r.Key, want[i].Key) {
				t.Errorf("two lists of an answer share their memory: %v at %d", r, i)
			}
			k := r.Key[:cap(r.Key)]
			for j := range k {
				k[j] = 1000
			}
		}
		clear(l[:cap(l)])
	}
	box := api.Box{Low: api.Key{0, 0}, High: api.Key{most, most}}
	spoil(a.All())
	holds(t, a, want...)
	l, _ := a.Window(box)
	spoil(l)
	holds(t, a, want...)
	spoil(a.Copy().All())
	shows(t, a, box, want...)
}

// plain is an atlas that keeps its records as they came, and says it word by word as the document does.
type plain struct {
	dim     int
	records []api.Record
}

func (p *plain) at(k api.Key) int {
	return slices.IndexFunc(p.records, func(r api.Record) bool { return slices.Equal(r.Key, k) })
}

func (p *plain) put(r api.Record) api.Errno {
	if len(r.Key) != p.dim || len(r.Data) > 40 {
		return api.BadRequest
	}
	if i := p.at(r.Key); i >= 0 {
		p.records[i].Data = r.Data
	} else {
		p.records = append(p.records, api.Record{Key: slices.Clone(r.Key), Data: r.Data})
	}
	return api.OK
}

func (p *plain) get(k api.Key) (string, api.Errno) {
	if len(k) != p.dim {
		return "", api.BadRequest
	}
	if i := p.at(k); i >= 0 {
		return p.records[i].Data, api.OK
	}
	return "", api.NotFound
}

func (p *plain) delete(k api.Key) api.Errno {
	_, e := p.get(k)
	if e == api.OK {
		i := p.at(k)
		p.records = append(p.records[:i], p.records[i+1:]...)
	}
	return e
}

func (p *plain) all() []api.Record {
	out := slices.Clone(p.records)
	slices.SortFunc(out, func(a api.Record, b api.Record) int { return slices.Compare(a.Key, b.Key) })
	return out
}

func (p *plain) window(b api.Box) ([]api.Record, api.Errno) {
	if len(b.Low) != p.dim || len(b.High) != p.dim {
		return nil, api.BadRequest
	}
	out := p.all()
	for i := range p.dim {
		if b.Low[i] > b.High[i] {
			return nil, api.BadRequest
		}
		out = slices.DeleteFunc(out, func(r api.Record) bool { return r.Key[i] < b.Low[i] || r.Key[i] > b.High[i] })
	}
	return out, api.OK
}

// P9.1 to P9.4, R6: long rows of calls, told beside the plain atlas, and twice.
func TestAgainstPlain(t *testing.T) {
	for seed := range int64(120) {
		dim := 1 + int(seed)%6
		a, again, p := create(t, dim), create(t, dim), &plain{dim: dim}
		r := rand.New(rand.NewSource(seed))
		for range 150 {
			together(t, r, p, a, again)
			if want := p.all(); !same(a.All(), want) || !same(again.All(), want) || a.Len() != len(want) {
				t.Fatalf("seed %d: All: %v, want %v", seed, a.All(), want)
			}
		}
	}
}

// point is one near others, seldom with another number of coordinates.
func point(r *rand.Rand, dim int) api.Key {
	if r.Intn(20) == 0 {
		dim = r.Intn(8)
	}
	k := make(api.Key, dim)
	for i := range k {
		k[i] = []uint32{0, 1, 2, 3, 1 << 31, most}[r.Intn(6)]
	}
	return k
}

// together does one call on all atlases.
func together(t *testing.T, r *rand.Rand, p *plain, atlases ...*atlas.Atlas) {
	t.Helper()
	do, k, low := r.Intn(8), point(r, p.dim), point(r, p.dim)
	data := strings.Repeat("d", r.Intn(43))
	b := api.Box{Low: low, High: k}
	value, e := p.get(k)
	in, f := p.window(b)
	for _, a := range atlases {
		if s, have := a.Get(k); s != value || have != e {
			t.Errorf("Get(%v): %q, %d, want %q, %d", k, s, have, value, e)
		}
		if l, have := a.Window(b); !same(l, in) || have != f {
			t.Errorf("Window(%v): %v, %d, want %v, %d", b, l, have, in, f)
		}
		if n, have := a.Count(b); n != len(in) || have != f {
			t.Errorf("Count(%v): %d, %d, want %d, %d", b, n, have, len(in), f)
		}
	}
	var want api.Errno
	if do < 5 {
		want = p.put(api.Record{Key: k, Data: data})
	} else {
		want = p.delete(k)
	}
	for _, a := range atlases {
		have := api.OK
		if do < 5 {
			have = a.Put(api.Record{Key: k, Data: data})
		} else {
			have = a.Delete(k)
		}
		if have != want {
			t.Errorf("Put or Delete (%d) of %v: %d, want %d", do, k, have, want)
		}
	}
}

// P9.4: of two windows that are one cut in two there are as many as in that.
func TestWindowsCutInTwo(t *testing.T) {
	r := rand.New(rand.NewSource(1))
	a := create(t, 3)
	for range 200 {
		put(t, a, "x", r.Uint32()%10, r.Uint32()%10, r.Uint32()%10)
	}
	for range 500 {
		low, high := make(api.Key, 3), make(api.Key, 3)
		for i := range low {
			x, y := r.Uint32()%10, r.Uint32()%10
			low[i], high[i] = min(x, y), max(x, y)
		}
		at := r.Intn(3)
		if low[at] == high[at] {
			continue
		}
		lower, upper := slices.Clone(high), slices.Clone(low)
		lower[at] = low[at] + r.Uint32()%(high[at]-low[at])
		upper[at] = lower[at] + 1
		all, _ := a.Count(api.Box{Low: low, High: high})
		first, _ := a.Count(api.Box{Low: low, High: lower})
		second, _ := a.Count(api.Box{Low: upper, High: high})
		if all != first+second {
			t.Fatalf("%v to %v, cut at %v: %d is not %d and %d", low, high, lower, all, first, second)
		}
	}
}
