package exdir_test

import (
	"math"
	"math/bits"
	"math/rand"
	"slices"
	"strconv"
	"strings"
	"testing"
	"unsafe"

	"cadastre/api"
	"cadastre/atlas"
	"cadastre/bucket"
	"cadastre/excell"
	"cadastre/exdir"
	"cadastre/key"
)

const (
	most = math.MaxUint32
	half = 1 << 31 // the first number whose highest bit is 1
)

func rec(data string, k ...uint32) api.Record { return api.Record{Key: k, Data: data} }

func conf(dim int, cap int, pages int) api.Config {
	return api.Config{Variant: api.Excell, Dim: dim, Cap: cap, Pages: pages}
}

func sameRecords(a []api.Record, b []api.Record) bool {
	return slices.EqualFunc(a, b, func(a api.Record, b api.Record) bool {
		return slices.Equal(a.Key, b.Key) && a.Data == b.Data
	})
}

func same(a exdir.State, b exdir.State) bool {
	return a.Depth == b.Depth && slices.Equal(a.Cells, b.Cells) && slices.EqualFunc(a.Buckets, b.Buckets, sameRecords)
}

func copied(l []api.Record) []api.Record {
	out := make([]api.Record, len(l))
	for i, r := range l {
		out[i] = api.Record{Key: slices.Clone(r.Key), Data: strings.Clone(r.Data)}
	}
	return out
}

func copiedState(s exdir.State) exdir.State {
	out := exdir.State{Depth: s.Depth, Cells: slices.Clone(s.Cells)}
	for _, l := range s.Buckets {
		out.Buckets = append(out.Buckets, copied(l))
	}
	return out
}

// address is that of a point, of so many digits.
func address(k api.Key, digits int) int {
	n, _ := key.Bits(k, digits)
	return n
}

// block is how many highest digits the cells of a number have alike, and which; false: they are not all that have these.
func block(s exdir.State, n int) (int, int, bool) {
	var in []int
	for a, m := range s.Cells {
		if m == n {
			in = append(in, a)
		}
	}
	for digits := range s.Depth + 1 {
		lower := s.Depth - digits
		if len(in) == 1<<lower && in[0]>>lower == in[len(in)-1]>>lower {
			return digits, in[0] >> lower, true
		}
	}
	return 0, 0, false
}

// wrong is why a state may not be, word by word as the document says it; nothing, if it may.
func wrong(c api.Config, s exdir.State) string {
	if s.Depth < 0 || s.Depth > 12 {
		return "Depth"
	}
	if len(s.Cells) != 1<<s.Depth {
		return "how many cells"
	}
	for _, n := range s.Cells {
		if n < 0 || n >= len(s.Buckets) {
			return "a number"
		}
	}
	for n := range s.Buckets {
		if _, _, ok := block(s, n); !ok {
			return "blocks"
		}
	}
	for n, l := range s.Buckets {
		digits, which, _ := block(s, n)
		if len(l) > c.Cap || bucket.Size(l) > 230 {
			return "a bucket that does not fit"
		}
		for i, r := range l {
			if len(r.Data) > 40 || len(r.Key) != c.Dim {
				return "a record"
			}
			if i > 0 && key.Compare(l[i-1].Key, r.Key) >= 0 {
				return "the order of records"
			}
			if address(r.Key, digits) != which {
				return "where a record is"
			}
		}
	}
	return ""
}

// directory is how many pages one of a depth has.
func directory(depth int) int { return []int{1, 1, 1, 1, 1, 1, 1, 2, 3, 6, 11, 21, 41}[depth] }

func pagesOf(s exdir.State) int { return 1 + directory(s.Depth) + len(s.Buckets) }

// blank is the State of a new store.
func blank() exdir.State {
	return exdir.State{Cells: []int{0}, Buckets: [][]api.Record{nil}}
}

func create(t *testing.T, c api.Config) *exdir.Store {
	t.Helper()
	x, e := exdir.New(c)
	if x == nil || e != api.OK {
		t.Fatalf("New(%v): %v, %d", c, x, e)
	}
	return x
}

func of(t *testing.T, c api.Config, s exdir.State) *exdir.Store {
	t.Helper()
	x, e := exdir.Of(c, s)
	if x == nil || e != api.OK {
		t.Fatalf("Of(%v, %v): %v, %d (%s)", c, s, x, e, wrong(c, s))
	}
	return x
}

func put(t *testing.T, x *exdir.Store, l ...api.Record) {
	t.Helper()
	for _, r := range l {
		if e := x.Put(r); e != api.OK {
			t.Fatalf("Put(%v): %d", r, e)
		}
	}
}

func del(t *testing.T, x *exdir.Store, l ...api.Key) {
	t.Helper()
	for _, k := range l {
		if e := x.Delete(k); e != api.OK {
			t.Fatalf("Delete(%v): %d", k, e)
		}
	}
}

// holds expects of a store a State, that may be, and its pages.
func holds(t *testing.T, x *exdir.Store, c api.Config, want exdir.State) {
	t.Helper()
	s := x.State()
	if !same(s, want) {
		t.Fatalf("State: %v, want %v", s, want)
	}
	if why := wrong(c, s); why != "" {
		t.Fatalf("a State that may not be (%s): %v", why, s)
	}
	if n := x.Pages(); n != pagesOf(s) || n > c.Pages {
		t.Fatalf("Pages: %d, want %d, at most %d", n, pagesOf(s), c.Pages)
	}
}

// P17.1
func TestNew(t *testing.T) {
	for dim := 1; dim <= 6; dim++ {
		for _, cap := range []int{2, 3, 15, 16} {
			for _, pages := range []int{4, 5, 998, 999} {
				for _, variant := range []int{0, 1, 2, 3, -1, 99} {
					c := conf(dim, cap, pages)
					c.Variant = variant
					x := create(t, c)
					holds(t, x, c, blank())
					if n := x.Pages(); n != 3 {
						t.Errorf("Pages: %d", n)
					}
					holds(t, of(t, c, blank()), c, blank())
				}
			}
		}
	}
}

// P17.1: configs that may not be, each for one reason; of them a state is not asked (R2).
func TestConfigsThatMayNotBe(t *testing.T) {
	var l []api.Config
	for _, n := range []int{math.MinInt, -1, 0, 7, 100, 1<<32 + 1, math.MaxInt} {
		l = append(l, conf(n, 4, 50))
	}
	for _, n := range []int{math.MinInt, -2, 0, 1, 17, 1<<32 + 4, math.MaxInt} {
		l = append(l, conf(2, n, 50))
	}
	for _, n := range []int{math.MinInt, -50, 0, 3, 1000, 1<<32 + 50, math.MaxInt} {
		l = append(l, conf(2, 4, n))
	}
	for _, c := range append(l, api.Config{}) {
		if x, e := exdir.New(c); x != nil || e != api.BadRequest {
			t.Errorf("New(%v): %v, %d", c, x, e)
		}
		for _, s := range []exdir.State{blank(), {}, {Depth: -1}} {
			if x, e := exdir.Of(c, s); x != nil || e != api.BadRequest {
				t.Errorf("Of(%v, %v): %v, %d", c, s, x, e)
			}
		}
	}
}

// quarters is a state of two coordinates: three buckets, of which number 1 has two cells.
func quarters() exdir.State {
	return exdir.State{Depth: 2, Cells: []int{1, 1, 0, 2}, Buckets: [][]api.Record{{rec("a", half, half-1)}, {rec("b", 0, 0), rec("c", half-1, most)}, nil}}
}

// row is a state of one coordinate in which each cell has a bucket, with one record at the cell's begin.
func row(depth int) exdir.State {
	s := exdir.State{Depth: depth}
	for a := range 1 << depth {
		s.Cells = append(s.Cells, a)
		s.Buckets = append(s.Buckets, []api.Record{rec(strconv.Itoa(a), uint32(a<<(32-depth)))})
	}
	return s
}

// wide is a state of one bucket, that has these records, in all cells.
func wide(depth int, l ...api.Record) exdir.State {
	return exdir.State{Depth: depth, Cells: make([]int, 1<<depth), Buckets: [][]api.Record{l}}
}

// lone is a state whose bucket 0, that has these records, has the first cell alone; it has as few buckets as may be.
func lone(depth int, l ...api.Record) exdir.State {
	s := exdir.State{Depth: depth, Buckets: make([][]api.Record, depth+1)}
	for a := range 1 << depth {
		s.Cells = append(s.Cells, bits.Len(uint(a)))
	}
	s.Buckets[0] = l
	return s
}

// full is a list of records that takes so many bytes of a page, or a few less; their points are those behind k.
func full(size int, k ...uint32) []api.Record {
	var l []api.Record
	for {
		r := rec(strings.Repeat("x", 40), slices.Clone(k)...)
		spare := size - bucket.Size(append(l, rec("", k...)))
		if spare < 0 {
			return l
		}
		r.Data = r.Data[:min(40, spare)]
		l = append(l, r)
		k[len(k)-1]++
	}
}

// P17.1: the store of a state that was told is one whose State it is, and has its records.
func TestOf(t *testing.T) {
	for i, x := range []struct {
		c api.Config
		s exdir.State
	}{
		{conf(2, 2, 5), quarters()}, {conf(2, 16, 999), quarters()}, {conf(1, 2, 4), row(1)}, {conf(1, 2, 66), row(6)}, {conf(1, 3, 131), row(7)}, {conf(1, 2, 519), row(9)},
		{conf(6, 2, 4), wide(6)}, {conf(5, 2, 43), wide(12)}, {conf(3, 2, 999), wide(12, rec("", 1, 2, 3), rec("", most, 0, 0))}, {conf(1, 2, 55), lone(12, rec("x", 1<<20-1))}, {conf(6, 16, 999), lone(12, rec("x", 5, 6, 7, 8, 9, 10))},
		{conf(1, 2, 4), exdir.State{Depth: 1, Cells: []int{1, 0}, Buckets: [][]api.Record{{rec("", half), rec("", most)}, {rec("", 0), rec(strings.Repeat("x", 40), half-1)}}}},
		{conf(2, 16, 9), wide(3, full(230, 5, 6)...)},
	} {
		before := copiedState(x.s)
		have := of(t, x.c, x.s)
		holds(t, have, x.c, before)
		if !same(x.s, before) {
			t.Errorf("case %d: Of has changed %v to %v", i, before, x.s)
		}
		if pages, buckets := have.Reads(); pages != 0 || buckets != 0 {
			t.Errorf("case %d: Reads: %d, %d", i, pages, buckets)
		}
		for _, r := range slices.Concat(before.Buckets...) {
			if data, e := have.Get(r.Key); data != r.Data || e != api.OK {
				t.Errorf("case %d: Get(%v): %q, %d", i, r.Key, data, e)
			}
		}
	}
}

// refusesOf expects that a state may not be, and that it may without one change.
func refusesOf(t *testing.T, c api.Config, s exdir.State, why string, change func(s *exdir.State)) {
	t.Helper()
	of(t, c, s)
	s = copiedState(s)
	change(&s)
	if have := wrong(c, s); have != why {
		t.Errorf("%v: %q, want %q", s, have, why)
	}
	if x, e := exdir.Of(c, s); x != nil || e != api.ErrForm {
		t.Errorf("Of(%v, %v): %v, %d", c, s, x, e)
	}
}

// P17.1: directories that may not be, each for one reason.
func TestDirectoriesThatMayNotBe(t *testing.T) {
	c := conf(2, 2, 99)
	for _, depth := range []int{math.MinInt, -2, -1, 13, 64, 66, 1<<32 + 2, math.MaxInt} {
		refusesOf(t, c, quarters(), "Depth", func(s *exdir.State) { s.Depth = depth })
	}
	refusesOf(t, c, wide(12), "Depth", func(s *exdir.State) { *s = wide(13) })
	for _, depth := range []int{0, 1, 3, 12} {
		refusesOf(t, c, quarters(), "how many cells", func(s *exdir.State) { s.Depth = depth })
	}
	for _, cells := range [][]int{nil, {0}, {1, 0}, {1, 1, 0}, {1, 1, 0, 2, 2}, {1, 1, 1, 1, 0, 0, 2, 2}} {
		refusesOf(t, c, quarters(), "how many cells", func(s *exdir.State) { s.Cells = cells })
	}
	refusesOf(t, c, blank(), "how many cells", func(s *exdir.State) { s.Cells = nil })
	refusesOf(t, c, blank(), "how many cells", func(s *exdir.State) { *s = exdir.State{} })
	for _, cells := range [][]int{{1, 1, 0, 3}, {1, 1, 0, -1}, {math.MinInt, 1, 0, 2}, {1, 1, math.MaxInt, 2}} {
		refusesOf(t, c, quarters(), "a number", func(s *exdir.State) { s.Cells = cells })
	}
	for _, cells := range [][]int{{1, 0, 0, 2}, {1, 0, 2, 1}, {1, 1, 0, 0}, {1, 1, 1, 1}, {0, 1, 1, 2}, {0, 1, 2, 1}, {2, 2, 1, 1}} {
		refusesOf(t, c, quarters(), "blocks", func(s *exdir.State) { s.Cells = cells })
	}
	// three cells of four, and the four in the midst of eight; two whole blocks that are none together
	for _, cells := range [][]int{{0, 0, 0, 1, 2, 2, 2, 2}, {0, 1, 1, 1, 2, 2, 2, 2}, {0, 0, 1, 1, 1, 1, 2, 2}, {0, 0, 1, 1, 0, 0, 2, 2}, {0, 0, 1, 1, 2, 2, 0, 0}, {0, 0, 0, 0, 0, 0, 1, 2}, {1, 2, 2, 0, 0, 0, 0, 0}} {
		refusesOf(t, c, exdir.State{Depth: 3, Cells: []int{0, 0, 1, 1, 2, 2, 2, 2}, Buckets: make([][]api.Record, 3)}, "blocks", func(s *exdir.State) { s.Cells = cells })
	}
	for _, n := range []int{0, 1, 2} {
		refusesOf(t, c, quarters(), "a number", func(s *exdir.State) { s.Buckets = s.Buckets[:n] })
	}
	for _, n := range []int{1, 2, 5000} {
		refusesOf(t, c, quarters(), "blocks", func(s *exdir.State) { s.Buckets = append(s.Buckets, make([][]api.Record, n)...) })
	}
}

// P17.1: buckets that may not be, each for one reason.
func TestBucketsThatMayNotBe(t *testing.T) {
	c := conf(2, 2, 99)
	for why, buckets := range map[string][][]api.Record{
		"a bucket that does not fit": {{rec("", 0, 0), rec("", 1, 0), rec("", 2, 0)}},
		"a record":                   {{rec("", 0)}, {rec("", 0, 0, 0)}, {rec("")}, {rec(strings.Repeat("x", 41), 0, 0)}},
		"the order of records":       {{rec("", 1, 0), rec("", 0, 9)}, {rec("a", 1, 0), rec("b", 1, 0)}},
		"where a record is":          {{rec("", half, 0)}, {rec("", 0, 0), rec("", half, half)}, {rec("", most, most)}},
	} {
		for _, l := range buckets {
			refusesOf(t, c, quarters(), why, func(s *exdir.State) { s.Buckets[1] = l })
		}
	}
	for n, l := range [][]api.Record{{rec("", half, half)}, {rec("", half, 0)}, {rec("", half, half-1)}} {
		refusesOf(t, c, quarters(), "where a record is", func(s *exdir.State) { s.Buckets[n] = l })
	}
	refusesOf(t, c, quarters(), "where a record is", func(s *exdir.State) { s.Buckets[0], s.Buckets[1] = s.Buckets[1], s.Buckets[0] })
	s := quarters()
	s.Buckets[1] = full(230, 0, 0)
	last := len(s.Buckets[1]) - 1
	refusesOf(t, conf(2, 16, 99), s, "a bucket that does not fit", func(s *exdir.State) { s.Buckets[1][last].Data += "x" })
}

// P17.1: a state that may be, but has more pages than the config's.
func TestStatesOfTooManyPages(t *testing.T) {
	for _, x := range []struct {
		s     exdir.State
		pages int
	}{
		{row(1), 4}, {row(2), 6}, {row(6), 66}, {row(7), 131}, {row(8), 260}, {wide(6), 3}, {wide(7), 4}, {wide(8), 5}, {wide(9), 8}, {wide(10), 13}, {wide(11), 23}, {wide(12), 43}, {lone(6), 9}, {lone(7), 11}, {lone(12), 55},
	} {
		if n := of(t, conf(1, 2, max(4, x.pages)), x.s).Pages(); n != x.pages {
			t.Errorf("Pages of %v: %d, want %d", x.s, n, x.pages)
		}
		if c := conf(1, 2, x.pages-1); x.pages > 4 {
			if have, e := exdir.Of(c, x.s); have != nil || e != api.ErrForm {
				t.Errorf("Of(%v, %v): %v, %d", c, x.s, have, e)
			}
		}
	}
	s := row(10)
	if have, e := exdir.Of(conf(1, 2, 999), s); have != nil || e != api.ErrForm {
		t.Errorf("Of(%v): %v, %d", s, have, e)
	}
}

// P17.1: all directories of few cells.
func TestSmallDirectories(t *testing.T) {
	c := conf(1, 2, 99)
	for depth, may := range []int{1, 3, 1 + 2 + 12 + 24} {
		some := 0
		for buckets := range 6 {
			s := exdir.State{Depth: depth, Cells: slices.Repeat([]int{-1}, 1<<depth), Buckets: make([][]api.Record, buckets)}
			for more := true; more; more = next(s.Cells) {
				want := api.ErrForm
				if wrong(c, s) == "" {
					want = api.OK
					some++
				}
				if x, e := exdir.Of(c, s); e != want || (x == nil) != (e != api.OK) {
					t.Fatalf("Of(%v): %v, %d, want %d", s, x, e, want)
				}
			}
		}
		if some != may {
			t.Errorf("%d states of depth %d may be, want %d", some, depth, may)
		}
	}
}

// next makes of contents from -1 to 4 the ones behind them; false: they were the last ones.
func next(cells []int) bool {
	for p := range cells {
		if cells[p] < 4 {
			cells[p]++
			return true
		}
		cells[p] = -1
	}
	return false
}

// Example 1: of any three points whose first coordinates' highest bits are not all alike.
func TestThreePoints(t *testing.T) {
	r := rand.New(rand.NewSource(1))
	for i := range 500 {
		dim := 1 + i%6
		var l []api.Record
		for len(l) < 3 {
			k := make(api.Key, dim)
			for at := range k {
				k[at] = r.Uint32() >> r.Intn(33)
			}
			k[0] = k[0]&(half-1) | uint32(len(l)%2)<<31
			l = bucket.Put(l, api.Record{Key: k})
		}
		r.Shuffle(3, func(i int, j int) { l[i], l[j] = l[j], l[i] })
		c := conf(dim, 2, 4)
		x := create(t, c)
		put(t, x, l...)
		s := x.State()
		holds(t, x, c, s)
		if s.Depth != 1 || len(s.Buckets) != 2 {
			t.Errorf("%v: %v", l, s)
		}
	}
}

// P17.2: the directory is doubled as often as it takes to part the records; by hand.
func TestSplit(t *testing.T) {
	c := conf(2, 2, 99)
	x := create(t, c)
	put(t, x, rec("a", 0, 0), rec("b", 0, half))
	holds(t, x, c, wide(0, rec("a", 0, 0), rec("b", 0, half)))
	put(t, x, rec("c", 1, half))
	holds(t, x, c, exdir.State{Depth: 2, Cells: []int{0, 2, 1, 1}, Buckets: [][]api.Record{{rec("a", 0, 0)}, nil, {rec("b", 0, half), rec("c", 1, half)}}})
	// in all its cells a bucket has room for another half: no cell comes to be
	put(t, x, rec("d", half, 0), rec("e", half, half), rec("f", most, most))
	holds(t, x, c, exdir.State{Depth: 2, Cells: []int{0, 2, 1, 3}, Buckets: [][]api.Record{{rec("a", 0, 0)}, {rec("d", half, 0)}, {rec("b", 0, half), rec("c", 1, half)}, {rec("e", half, half), rec("f", most, most)}}})
	// the first coordinate's turn comes again
	put(t, x, rec("g", 1<<30, most))
	holds(t, x, c, exdir.State{Depth: 3, Cells: []int{0, 0, 2, 4, 1, 1, 3, 3}, Buckets: [][]api.Record{{rec("a", 0, 0)}, {rec("d", half, 0)}, {rec("b", 0, half), rec("c", 1, half)}, {rec("e", half, half), rec("f", most, most)}, {rec("g", 1<<30, most)}}})
	// a bucket of many cells is split to where its records are parted
	c = conf(1, 2, 999)
	x = of(t, c, wide(4, rec("a", 0), rec("b", 1<<30)))
	put(t, x, rec("c", 1<<29))
	holds(t, x, c, exdir.State{Depth: 4, Cells: []int{0, 0, 0, 0, 2, 2, 2, 2, 1, 1, 1, 1, 1, 1, 1, 1}, Buckets: [][]api.Record{{rec("a", 0), rec("c", 1<<29)}, nil, {rec("b", 1<<30)}}})
}

// P17.2: each digit at which records may be parted, of points of all numbers of coordinates.
func TestSplitAtEachDigit(t *testing.T) {
	for dim := 1; dim <= 6; dim++ {
		for digit := range 12 {
			c := conf(dim, 2, 999)
			k := make(api.Key, dim)
			k[digit%dim] = 1 << (31 - digit/dim)
			low := make(api.Key, dim)
			low[dim-1] = 1
			l := []api.Record{{Key: make(api.Key, dim)}, {Key: low}, {Key: k}}
			for i := range l {
				x := create(t, c)
				put(t, x, l[i], l[(i+1)%3], l[(i+2)%3])
				s := x.State()
				holds(t, x, c, s)
				if s.Depth != digit+1 || len(s.Buckets) != digit+2 {
					t.Errorf("%v: %v", l, s)
				}
			}
		}
	}
}

// refusesPut expects of a Put an error, and nothing changed.
func refusesPut(t *testing.T, x *exdir.Store, r api.Record, want api.Errno) {
	t.Helper()
	before := x.State()
	pages, buckets := x.Reads()
	if e := x.Put(r); e != want {
		t.Errorf("Put(%v): %d, want %d", r, e, want)
	}
	if s := x.State(); !same(s, before) {
		t.Errorf("Put(%v) has changed %v to %v", r, before, s)
	}
	if n := x.Pages(); n != pagesOf(before) {
		t.Errorf("Put(%v): Pages %d, want %d", r, n, pagesOf(before))
	}
	if p, b := x.Reads(); p != pages || b != buckets {
		t.Errorf("Put(%v): Reads %d, %d, ahead of it %d, %d", r, p, b, pages, buckets)
	}
}

// P17.2: with one digit more to part the records by, and with none left.
func TestDirectoryLimit(t *testing.T) {
	c := conf(1, 2, 999)
	x := of(t, c, lone(11, rec("a", 0), rec("b", 1)))
	refusesPut(t, x, rec("", 2), api.DirectoryLimit)
	refusesPut(t, x, rec("", 1<<20-1), api.DirectoryLimit)
	put(t, x, rec("c", 1<<20)) // the twelfth digit is another one
	s := x.State()
	holds(t, x, c, s)
	if s.Depth != 12 || len(s.Buckets) != 13 {
		t.Fatalf("%v", s)
	}
	refusesPut(t, x, rec("", 2), api.DirectoryLimit)
	refusesPut(t, x, rec("", 1<<20-1), api.DirectoryLimit)
	put(t, x, rec("A", 0), rec("B", 1), rec("d", most), rec("e", 1<<21-1))
	refusesPut(t, x, rec("", 1<<21-2), api.DirectoryLimit)
	// two cells are one bucket's: it is split without a digit more, but no further
	x = of(t, c, wide(12, rec("", 5), rec("", 1<<20)))
	put(t, x, rec("", 6))
	if s = x.State(); s.Depth != 12 || len(s.Buckets) != 13 {
		t.Errorf("%v", s)
	}
	refusesPut(t, x, rec("", 7), api.DirectoryLimit)
}

// P17.2: three points that have the twelve highest digits alike; other ones may be put still.
func TestDirectoryLimitOfANewStore(t *testing.T) {
	for dim := 1; dim <= 6; dim++ {
		for at := range dim {
			digits := (12 + dim - 1 - at) / dim // of the twelve these are that coordinate's
			c := conf(dim, 2, 999)
			x := create(t, c)
			k, low, near := make(api.Key, dim), make(api.Key, dim), make(api.Key, dim)
			low[at], near[at], k[at] = 1, 1<<(32-digits)-1, 1<<(32-digits)
			put(t, x, api.Record{Key: make(api.Key, dim)}, api.Record{Key: low})
			refusesPut(t, x, api.Record{Key: near}, api.DirectoryLimit)
			put(t, x, api.Record{Key: k})
			refusesPut(t, x, api.Record{Key: near}, api.DirectoryLimit)
			holds(t, x, c, x.State())
		}
	}
}

// P17.2, R2: where there would be too many digits and too many pages, DirectoryLimit; it is BadRequest, if the record may not be.
func TestDirectoryLimitAheadOfDiskFull(t *testing.T) {
	x := create(t, conf(1, 2, 4))
	put(t, x, rec("", 0), rec("", 1))
	refusesPut(t, x, rec("", 2), api.DirectoryLimit)
	refusesPut(t, x, rec("", 1<<20), api.DiskFull)
	refusesPut(t, x, rec(strings.Repeat("x", 41), 2), api.BadRequest)
	refusesPut(t, x, rec("", 2, 2), api.BadRequest)
	s := lone(12, rec("", 0), rec("", 1))
	x = of(t, conf(1, 2, pagesOf(s)), s)
	refusesPut(t, x, rec("", 2), api.DirectoryLimit)
}

// P17.2: each thing by which there may be more pages than Pages: buckets, and pages of the directory.
func TestDiskFull(t *testing.T) {
	x := create(t, conf(1, 2, 4))
	put(t, x, rec("", 7), rec("", 8), rec("", half)) // 4 pages
	refusesPut(t, x, rec("", 1<<30), api.DiskFull)
	put(t, x, rec("", half+1), rec("x", 7), rec("y", half)) // these fit
	refusesPut(t, x, rec("", most), api.DiskFull)
	type trial struct {
		s    exdir.State
		r    api.Record
		more int
	}
	l := []trial{{wide(0, rec("", 0), rec("", 1)), rec("", 1<<20), 40 + 12}, {wide(4, rec("", 0), rec("", 1<<30)), rec("", 1<<29), 2}, {wide(6, rec("", 0), rec("", 1)), rec("", 1<<25), 1 + 7}, {row(6), rec("", 1), 0}}
	for depth, pages := range []int{0, 0, 0, 0, 0, 0, 1, 1, 3, 5, 10, 20} {
		l = append(l, trial{lone(depth, rec("", 0), rec("", 1)), rec("", 1<<(31-depth)), pages + 1})
	}
	for _, y := range l {
		for extra := range y.more {
			if pages := pagesOf(y.s) + extra; pages >= 4 {
				refusesPut(t, of(t, conf(1, 2, pages), y.s), y.r, api.DiskFull)
			}
		}
		c := conf(1, 2, pagesOf(y.s)+y.more)
		x := of(t, c, y.s)
		put(t, x, y.r)
		holds(t, x, c, x.State())
		if x.Pages() != c.Pages {
			t.Errorf("Put(%v) in %v: %d pages more, want %d", y.r, y.s, x.Pages()-pagesOf(y.s), y.more)
		}
	}
}

// P17.2: too many bytes, though not too many records; what is put in the place of one with more Data, too.
func TestBytesThatDoNotFit(t *testing.T) {
	big := strings.Repeat("x", 40)
	l := []api.Record{rec(big, 1), rec(big, 2), rec(big, 3), rec(big, 4), rec(big, half)} // 226 bytes
	x := create(t, conf(1, 16, 4))
	put(t, x, l...)
	holds(t, x, conf(1, 16, 4), wide(0, l...))
	put(t, x, rec(big[:39], half), rec("", 6)) // 230 bytes
	if n := x.Pages(); n != 3 {
		t.Errorf("Pages: %d", n)
	}
	put(t, x, rec("x", 6)) // 231 bytes
	if s := x.State(); s.Depth != 1 || len(s.Buckets) != 2 {
		t.Errorf("%v", s)
	}
	s := wide(0, rec(big, 1), rec(big, 2), rec(big, 3), rec(big, 4), rec(big[:35], 5), rec("", 6)) // 226 bytes
	x = of(t, conf(1, 16, 999), s)
	put(t, x, rec("xxxx", 6))
	refusesPut(t, x, rec("xxxxx", 6), api.DirectoryLimit)
	refusesPut(t, x, rec(big, 5), api.DirectoryLimit)
	put(t, x, rec("", 1), rec(big, 5))
	if n := x.Pages(); n != 3 {
		t.Errorf("Pages: %d", n)
	}
}

// P17.2: a record whose bucket, with it, fits is put however few pages are left.
func TestWhatFitsIsPut(t *testing.T) {
	for _, depth := range []int{1, 6, 7, 9} {
		s := row(depth)
		c := conf(1, 2, pagesOf(s))
		x := of(t, c, s)
		for a, l := range s.Buckets {
			k := l[0].Key[0]
			put(t, x, rec("more", k+1), rec("again", k))
			s.Buckets[a] = []api.Record{rec("again", k), rec("more", k+1)}
			refusesPut(t, x, rec("", k+2), api.DirectoryLimit)
		}
		holds(t, x, c, s)
	}
}

// P17.3: buckets are put together, and the directory is halved; by hand.
func TestBucketsArePutTogether(t *testing.T) {
	for i, x := range []struct {
		cap  int
		s    exdir.State
		k    uint32
		want exdir.State
	}{
		{2, exdir.State{Depth: 1, Cells: []int{0, 1}, Buckets: [][]api.Record{{rec("", 0), rec("", 1)}, {rec("", half)}}}, half, wide(0, rec("", 0), rec("", 1))},
		{2, lone(12, rec("", 0), rec("", 1)), 1, wide(0, rec("", 0))},
		// the lesser number is kept; where the greater one is not the last one, the last one comes to it
		{
			2, exdir.State{Depth: 2, Cells: []int{3, 1, 2, 0}, Buckets: [][]api.Record{{rec("", 3<<30), rec("", most)}, {rec("", 1<<30)}, {rec("", half), rec("", half+1)}, {rec("", 0), rec("", 1)}}}, 0,
			exdir.State{Depth: 2, Cells: []int{1, 1, 2, 0}, Buckets: [][]api.Record{{rec("", 3<<30), rec("", most)}, {rec("", 1), rec("", 1<<30)}, {rec("", half), rec("", half+1)}}},
		},
		{
			2, exdir.State{Depth: 2, Cells: []int{0, 1, 3, 2}, Buckets: [][]api.Record{{rec("", 0), rec("", 1)}, {rec("", 1<<30)}, {rec("", 3<<30), rec("", most)}, {rec("", half)}}}, 1,
			exdir.State{Depth: 2, Cells: []int{0, 0, 1, 2}, Buckets: [][]api.Record{{rec("", 0), rec("", 1<<30)}, {rec("", half)}, {rec("", 3<<30), rec("", most)}}},
		},
		// what comes of two is put together with a third one
		{3, exdir.State{Depth: 2, Cells: []int{2, 0, 1, 1}, Buckets: [][]api.Record{{rec("", 1<<30)}, {rec("", half), rec("", most)}, {rec("", 0)}}}, 1 << 30, wide(0, rec("", 0), rec("", half), rec("", most))},
		{3, exdir.State{Depth: 2, Cells: []int{1, 1, 0, 2}, Buckets: [][]api.Record{{rec("", half)}, {rec("", 5), rec("", 7)}, {rec("", most)}}}, most, wide(0, rec("", 5), rec("", 7), rec("", half))},
		// one digit is not needed any more, the others are
		{
			2, exdir.State{Depth: 3, Cells: []int{0, 0, 1, 2, 3, 3, 3, 3}, Buckets: [][]api.Record{{rec("", 0), rec("", 1)}, {rec("", 1<<30)}, {rec("", 3<<29), rec("", 3<<29+1)}, {rec("", half), rec("", most)}}}, 3 << 29,
			exdir.State{Depth: 2, Cells: []int{0, 1, 2, 2}, Buckets: [][]api.Record{{rec("", 0), rec("", 1)}, {rec("", 1<<30), rec("", 3<<29+1)}, {rec("", half), rec("", most)}}},
		},
		// no digit was needed ahead of it
		{2, wide(3, rec("", 7), rec("", most)), 7, wide(0, rec("", most))},
	} {
		c := conf(1, x.cap, 99)
		have := of(t, c, x.s)
		del(t, have, api.Key{x.k})
		if s := have.State(); !same(s, x.want) {
			t.Errorf("case %d: %v, want %v", i, s, x.want)
		}
		holds(t, have, c, x.want)
	}
}

// P17.3: the records of two buckets of many coordinates, that are put together, stand in their order.
func TestRecordsOfTwoBuckets(t *testing.T) {
	c := conf(2, 4, 99)
	x := of(t, c, exdir.State{Depth: 2, Cells: []int{0, 1, 2, 2}, Buckets: [][]api.Record{{rec("a", 1, 0), rec("b", 3, 5), rec("c", 9, 9)}, {rec("d", 0, half), rec("e", 3, most)}, {rec("f", half, 0), rec("g", half, 1), rec("h", half, 2), rec("i", half, 3)}}})
	del(t, x, api.Key{9, 9})
	holds(t, x, c, exdir.State{Depth: 1, Cells: []int{0, 1}, Buckets: [][]api.Record{{rec("d", 0, half), rec("a", 1, 0), rec("b", 3, 5), rec("e", 3, most)}, {rec("f", half, 0), rec("g", half, 1), rec("h", half, 2), rec("i", half, 3)}}})
}

// P17.3: buckets that would not fit are not put together, nor are those whose cells are no block together.
func TestOthersAreNotPutTogether(t *testing.T) {
	for i, x := range []struct {
		cap int
		s   exdir.State
		k   uint32
	}{
		{2, exdir.State{Depth: 1, Cells: []int{0, 1}, Buckets: [][]api.Record{{rec("", 1), rec("", 2)}, {rec("", half), rec("", most)}}}, 1},
		{16, exdir.State{Depth: 1, Cells: []int{1, 0}, Buckets: [][]api.Record{full(230, half), {rec("", 1), rec("", 2)}}}, 2},
		// the other half's cells are of two buckets
		{4, exdir.State{Depth: 2, Cells: []int{0, 0, 1, 2}, Buckets: [][]api.Record{{rec("", 0), rec("", 1)}, {rec("", half)}, {rec("", most)}}}, 0},
		{2, exdir.State{Depth: 2, Cells: []int{0, 0, 1, 2}, Buckets: [][]api.Record{{rec("", 0), rec("", 1)}, nil, nil}}, 0},
		// cells that stand beside one another, but in two halves
		{2, exdir.State{Depth: 2, Cells: []int{0, 1, 2, 3}, Buckets: [][]api.Record{{rec("", 0), rec("", 1)}, {rec("", 1<<30), rec("", half-1)}, {rec("", half)}, {rec("", 3<<30), rec("", most)}}}, half - 1},
	} {
		c := conf(1, x.cap, 99)
		have := of(t, c, x.s)
		del(t, have, api.Key{x.k})
		want := copiedState(x.s)
		for n, l := range want.Buckets {
			want.Buckets[n], _ = bucket.Cut(l, api.Key{x.k})
		}
		if s := have.State(); !same(s, want) {
			t.Errorf("case %d: %v, want %v", i, s, want)
		}
	}
}

// P17.3: behind a Delete that leaves no record the State is New's, whatever it was; Reads go on.
func TestDeleteOfTheLastRecord(t *testing.T) {
	for dim := 1; dim <= 6; dim++ {
		k := make(api.Key, dim)
		for _, s := range []exdir.State{lone(12, api.Record{Key: k}), wide(12, api.Record{Key: k}), lone(5, api.Record{Key: k}), wide(0, api.Record{Key: k})} {
			c := conf(dim, 2, 99)
			x := of(t, c, s)
			x.Get(k)
			del(t, x, k)
			holds(t, x, c, blank())
			if p, b := x.Reads(); p != 1 || b != 1 {
				t.Errorf("Reads: %d, %d", p, b)
			}
			if e := x.Delete(k); e != api.NotFound {
				t.Errorf("Delete: %d", e)
			}
			put(t, x, api.Record{Key: k})
		}
	}
	c := conf(1, 2, 99)
	x := of(t, c, row(5))
	for a := range 32 {
		if s := x.State(); same(s, blank()) {
			t.Errorf("New's State, with %d records", 32-a)
		}
		del(t, x, api.Key{uint32(a) << 27})
	}
	holds(t, x, c, blank())
	// a Delete that finds nothing leaves a state without records as it is
	for _, s := range []exdir.State{wide(4), lone(4)} {
		x = of(t, c, s)
		if e := x.Delete(api.Key{1}); e != api.NotFound {
			t.Errorf("Delete: %d", e)
		}
		holds(t, x, c, s)
	}
}

// walk is a long row of calls of a store, and of another one like it, beside an atlas.
type walk struct {
	c        api.Config
	r        *rand.Rand
	x, again *exdir.Store
	a        *atlas.Atlas
	data     int // how many bytes Data may have
	point    func() api.Key
	puts     int // of ten calls that change something
	errors   [10]int
}

func (w *walk) step(t *testing.T) {
	t.Helper()
	before := w.x.State()
	k := w.point()
	if all := w.a.All(); len(all) > 0 && w.r.Intn(3) == 0 {
		k = all[w.r.Intn(len(all))].Key
	}
	pages, buckets := w.x.Reads()
	if w.r.Intn(10) < w.puts {
		w.put(t, before, api.Record{Key: k, Data: strings.Repeat("d", w.r.Intn(w.data+1))})
	} else {
		if all := w.a.All(); len(all) > 0 && w.r.Intn(4) > 0 {
			k = all[w.r.Intn(len(all))].Key
		}
		w.del(t, before, k)
	}
	if p, b := w.x.Reads(); p != pages || b != buckets {
		t.Fatalf("Reads: %d, %d, ahead of a change %d, %d", p, b, pages, buckets)
	}
	w.ask(t, k)
}

// expected is what a Put tells, and how many digits and buckets there are behind it.
func expected(c api.Config, s exdir.State, r api.Record) (api.Errno, int, int) {
	n := s.Cells[address(r.Key, s.Depth)]
	digits, _, _ := block(s, n)
	depth, buckets := s.Depth, len(s.Buckets)
	for l := bucket.Put(s.Buckets[n], r); !bucket.Fits(l, c.Cap); {
		if digits == 12 {
			return api.DirectoryLimit, s.Depth, len(s.Buckets)
		}
		digits++
		depth, buckets = max(depth, digits), buckets+1
		l = slices.DeleteFunc(l, func(x api.Record) bool { return address(x.Key, digits) != address(r.Key, digits) })
	}
	if 1+directory(depth)+buckets > c.Pages {
		return api.DiskFull, s.Depth, len(s.Buckets)
	}
	return api.OK, depth, buckets
}

func (w *walk) put(t *testing.T, before exdir.State, r api.Record) {
	t.Helper()
	e := w.x.Put(r)
	if again := w.again.Put(r); again != e {
		t.Fatalf("Put(%v): %d, again %d", r, e, again)
	}
	w.errors[e]++
	s := w.x.State()
	want, depth, buckets := atlas.Check(r, w.c.Dim), before.Depth, len(before.Buckets)
	if want == api.OK {
		want, depth, buckets = expected(w.c, before, r)
	}
	if e != want || s.Depth != depth || len(s.Buckets) != buckets {
		t.Fatalf("Put(%v) in %v: %d, %v, want %d, Depth %d, %d buckets", r, before, e, s, want, depth, buckets)
	}
	if e == api.OK {
		w.a.Put(r)
	} else if !same(s, before) {
		t.Fatalf("Put(%v): %d, and %v is %v", r, e, before, s)
	}
}

func (w *walk) del(t *testing.T, before exdir.State, k api.Key) {
	t.Helper()
	want := w.a.Delete(k)
	if e, again := w.x.Delete(k), w.again.Delete(k); e != want || again != want {
		t.Fatalf("Delete(%v): %d, again %d, want %d", k, e, again, want)
	}
	s := w.x.State()
	switch {
	case want != api.OK:
		if !same(s, before) {
			t.Fatalf("Delete(%v): %d, and %v is %v", k, want, before, s)
		}
	case w.a.Len() == 0:
		holds(t, w.x, w.c, blank())
	default:
		if pagesOf(s) > pagesOf(before) || s.Depth > before.Depth || len(s.Buckets) > len(before.Buckets) {
			t.Fatalf("Delete(%v) of %v: %v", k, before, s)
		}
		gathered(t, w.c, s, k)
	}
}

// gathered expects that the bucket of a point has no buddy with which it fits into one, and that no fewer digits would do.
func gathered(t *testing.T, c api.Config, s exdir.State, k api.Key) {
	t.Helper()
	n, needed := s.Cells[address(k, s.Depth)], 0
	digits, which, _ := block(s, n)
	for m := range s.Buckets {
		others, beside, _ := block(s, m)
		if needed = max(needed, others); others == digits && beside == which^1 && bucket.Fits(slices.Concat(s.Buckets[n], s.Buckets[m]), c.Cap) {
			t.Fatalf("behind the Delete of %v the buckets %d and %d were not put together: %v", k, n, m, s)
		}
	}
	if s.Depth != needed {
		t.Fatalf("%d digits, and %d would do: %v", s.Depth, needed, s)
	}
}

// fewest is how many buckets records need that have so many digits alike, and how many digits these have.
func fewest(c api.Config, l []api.Record, digits int) (int, int) {
	if bucket.Fits(l, c.Cap) {
		return 1, digits
	}
	var halves [2][]api.Record
	for _, r := range l {
		upper := address(r.Key, digits+1) & 1
		halves[upper] = append(halves[upper], r)
	}
	a, d := fewest(c, halves[0], digits+1)
	b, e := fewest(c, halves[1], digits+1)
	return a + b, max(d, e)
}

// ask expects of Get and Window what the atlas tells, and of Reads what they read.
func (w *walk) ask(t *testing.T, k api.Key) {
	t.Helper()
	pages, buckets := w.x.Reads()
	want, f := w.a.Get(k)
	if s, e := w.x.Get(k); s != want || e != f {
		t.Fatalf("Get(%v): %q, %d, want %q, %d", k, s, e, want, f)
	}
	morePages, moreBuckets := w.x.Reads()
	one := 1
	if f == api.BadRequest {
		one = 0
	}
	if morePages != pages+one || moreBuckets != buckets+one {
		t.Fatalf("Reads: %d, %d, ahead of a Get %d, %d", morePages, moreBuckets, pages, buckets)
	}
	pages, buckets = morePages, moreBuckets
	b := w.window(k)
	in, f := w.a.Window(b)
	if l, e := w.x.Window(b); !sameRecords(l, in) || e != f {
		t.Fatalf("Window(%v): %v, %d, want %v, %d", b, l, e, in, f)
	}
	s, meet := w.x.State(), 0
	for n := range s.Buckets {
		digits, which, _ := block(s, n)
		cells, _ := excell.Box(w.c.Dim, digits, which)
		if _, met := key.Meet(cells, b); met {
			meet++
		}
	}
	least, most := 1, directory(s.Depth)
	if f != api.OK {
		least, most, meet = 0, 0, 0
	}
	if p, n := w.x.Reads(); p < pages+least || p > pages+most || n != buckets+meet {
		t.Fatalf("Reads: %d, %d, ahead of Window(%v) %d, %d, %d buckets meet it", p, n, b, pages, buckets, meet)
	}
}

// window is a box with a point at one of its ends, seldom one that may not be.
func (w *walk) window(k api.Key) api.Box {
	b := api.Box{Low: slices.Clone(k), High: w.point()}
	for at := range min(len(b.Low), len(b.High)) {
		if b.Low[at] > b.High[at] && w.r.Intn(50) > 0 {
			b.Low[at], b.High[at] = b.High[at], b.Low[at]
		}
	}
	return b
}

// points tells points of one kind: far from one another, many near one another, in some heaps, of few numbers.
func points(r *rand.Rand, dim int, kind int) func() api.Key {
	heaps := make([]uint32, 24)
	for i := range heaps {
		heaps[i] = r.Uint32()
	}
	return func() api.Key {
		k := make(api.Key, dim)
		if r.Intn(60) == 0 {
			k = make(api.Key, r.Intn(8))
		}
		heap := r.Intn(4)
		for at := range k {
			switch kind {
			case 0:
				k[at] = r.Uint32()
			case 1:
				k[at] = r.Uint32() >> r.Intn(33)
			case 2:
				k[at] = heaps[(6*heap+at)%24] + uint32(r.Intn(9))
			default:
				k[at] = []uint32{0, 1, 2, half, half - 1, most - 1, most}[r.Intn(7)]
			}
		}
		return k
	}
}

// run is a walk in phases, in which ever more or less is put; behind it all is deleted.
func (w *walk) run(t *testing.T, phases ...int) {
	t.Helper()
	fresh := same(w.x.State(), blank())
	for phase, puts := range phases {
		w.puts = puts
		for range 50 {
			w.step(t)
		}
		s := w.x.State()
		holds(t, w.x, w.c, s)
		holds(t, w.again, w.c, s)
		// where no Put leaves less than there was, and no directory was told, the records tell what it is
		if buckets, depth := fewest(w.c, w.a.All(), 0); fresh && w.data == 0 && (len(s.Buckets) != buckets || s.Depth != depth) {
			t.Fatalf("%v: %d buckets, %d digits would do", s, buckets, depth)
		}
		if phase%2 == 0 {
			w.again = of(t, w.c, s)
		}
		if l, _ := w.x.Window(key.Whole(w.c.Dim)); !sameRecords(l, w.a.All()) {
			t.Fatalf("%v, want %v", l, w.a.All())
		}
	}
	for _, record := range w.a.All() {
		w.del(t, w.x.State(), record.Key)
	}
	holds(t, w.x, w.c, blank())
}

// P17.2 to P17.5, R6: it answers as an atlas does; its State may be, and makes the same store.
func TestLongRowsOfCalls(t *testing.T) {
	told := [10]int{}
	for seed := range int64(96) {
		r := rand.New(rand.NewSource(seed))
		dim, kind := 1+int(seed)%6, int(seed)/6%4
		c := conf(dim, []int{2, 3, 5, 16}[r.Intn(4)], []int{4, 5, 8, 20, 60, 999, 999}[r.Intn(7)])
		start, phases := blank(), []int{9, 5, 2, 8, 1}
		if seed%48 > 23 {
			c.Cap, c.Pages, phases = 2, 999, []int{10, 10, 2, 5}
			start = []exdir.State{wide(12), lone(12), wide(7), lone(9)}[r.Intn(4)]
		}
		a, _ := atlas.New(dim)
		w := &walk{c: c, r: r, x: of(t, c, start), again: of(t, c, start), a: a, data: []int{0, 3, 41}[r.Intn(3)], point: points(r, dim, kind)}
		w.run(t, phases...)
		for e, n := range w.errors {
			told[e] += n
		}
	}
	for _, e := range []api.Errno{api.OK, api.BadRequest, api.DiskFull, api.DirectoryLimit} {
		if told[e] < 50 {
			t.Errorf("a Put told %d only %d times", e, told[e])
		}
	}
}

// P17.4: by hand.
func TestReads(t *testing.T) {
	s := wide(10) // 11 pages
	for a := 512; a < 1024; a++ {
		s.Cells[a] = 1
	}
	s.Buckets = [][]api.Record{{rec("a", 3, 3)}, {rec("", half, 0)}}
	x := of(t, conf(2, 2, 99), s)
	pages, buckets := 0, 0
	reads := func(what string, leastPages int, mostPages int, moreBuckets int) {
		t.Helper()
		p, b := x.Reads()
		if p < pages+leastPages || p > pages+mostPages || b != buckets+moreBuckets {
			t.Errorf("%s: Reads %d, %d, ahead of it %d, %d", what, p, b, pages, buckets)
		}
		pages, buckets = p, b
	}
	x.Get(api.Key{3, 3})
	reads("Get", 1, 1, 1)
	x.Get(api.Key{most, most})
	reads("Get of nothing", 1, 1, 1)
	for _, k := range wrongPoints(2) {
		x.Get(k)
		reads("Get of what may not be", 0, 0, 0)
	}
	x.Window(key.Whole(2))
	reads("Window of all", 11, 11, 2)
	x.Window(api.Box{Low: api.Key{0, 0}, High: api.Key{0, 0}})
	reads("Window of one point", 1, 1, 1)
	x.Window(api.Box{Low: api.Key{most, most}, High: api.Key{most, most}})
	reads("Window of the last cell", 1, 1, 1)
	x.Window(api.Box{Low: api.Key{0, 0}, High: api.Key{half - 1, most}})
	reads("Window of the lower half", 6, 6, 1)
	x.Window(api.Box{Low: api.Key{half - 1, 0}, High: api.Key{half, 0}})
	reads("Window of cells 170 and 512", 2, 2, 2)
	x.Window(api.Box{Low: api.Key{5, 0}, High: api.Key{5, most}})
	reads("Window of 32 cells, that are 0 to 85 and 256 to 341", 3, 3, 1)
	for _, b := range wrongBoxes(2) {
		x.Window(b)
		reads("Window that may not be", 0, 0, 0)
	}
	put(t, x, rec("b", 4, 4), rec("c", 5, most))
	x.Put(rec("", 1))
	del(t, x, api.Key{4, 4})
	x.Delete(api.Key{4, 4})
	x.State()
	x.Pages()
	x.Copy().Get(api.Key{3, 3})
	reads("all others", 0, 0, 0)
}

// wrongPoints are points that may not be, of so many coordinates.
func wrongPoints(dim int) []api.Key {
	out := []api.Key{nil, {}, make(api.Key, dim+1), make(api.Key, 7)}
	return append(out, make(api.Key, dim-1))
}

func wrongBoxes(dim int) []api.Box {
	out := []api.Box{{}, {Low: make(api.Key, dim)}, {High: make(api.Key, dim)}}
	for _, k := range wrongPoints(dim) {
		out = append(out, api.Box{Low: k, High: k}, api.Box{Low: k, High: make(api.Key, dim)}, api.Box{Low: make(api.Key, dim), High: k})
	}
	for at := range dim {
		b := key.Whole(dim)
		b.Low[at], b.High[at] = 8, 7
		out = append(out, b)
	}
	return out
}

// P17.2, P17.3, R3: what may not be.
func TestRefusals(t *testing.T) {
	for dim := 1; dim <= 6; dim++ {
		x := create(t, conf(dim, 2, 99))
		put(t, x, api.Record{Key: make(api.Key, dim), Data: "x"})
		before := x.State()
		for _, k := range wrongPoints(dim) {
			refusesPut(t, x, api.Record{Key: k}, api.BadRequest)
			if e := x.Delete(k); e != api.BadRequest {
				t.Errorf("Delete(%v): %d", k, e)
			}
			if s, e := x.Get(k); s != "" || e != api.BadRequest {
				t.Errorf("Get(%v): %q, %d", k, s, e)
			}
		}
		refusesPut(t, x, api.Record{Key: make(api.Key, dim), Data: strings.Repeat("x", 41)}, api.BadRequest)
		for _, b := range wrongBoxes(dim) {
			if l, e := x.Window(b); len(l) != 0 || e != api.BadRequest {
				t.Errorf("Window(%v): %v, %d", b, l, e)
			}
		}
		other := slices.Repeat(api.Key{1}, dim)
		if s, e := x.Get(other); s != "" || e != api.NotFound {
			t.Errorf("Get(%v): %q, %d", other, s, e)
		}
		if e := x.Delete(other); e != api.NotFound {
			t.Errorf("Delete(%v): %d", other, e)
		}
		if s := x.State(); !same(s, before) {
			t.Errorf("%v, want %v", s, before)
		}
	}
}

// R1, P17.1: methods of nil, and of a store that was not made.
func TestNil(t *testing.T) {
	for _, x := range []*exdir.Store{nil, {}, {Config: conf(1, 2, 9)}} {
		for dim := range 7 {
			if e := x.Put(api.Record{Key: make(api.Key, dim)}); e != api.BadRequest {
				t.Errorf("Put: %d", e)
			}
			if e := x.Delete(make(api.Key, dim)); e != api.BadRequest {
				t.Errorf("Delete: %d", e)
			}
			if s, e := x.Get(make(api.Key, dim)); s != "" || e != api.BadRequest {
				t.Errorf("Get: %q, %d", s, e)
			}
			if l, e := x.Window(key.Whole(dim)); len(l) != 0 || e != api.BadRequest {
				t.Errorf("Window: %v, %d", l, e)
			}
		}
		if s := x.State(); !same(s, exdir.State{}) || x.Pages() != 0 || x.Copy() != nil {
			t.Errorf("%v, %d, %v", s, x.Pages(), x.Copy())
		}
		if p, b := x.Reads(); p != 0 || b != 0 {
			t.Errorf("Reads: %d, %d", p, b)
		}
	}
}

// P17.1: a copy is like it, and of its own.
func TestCopy(t *testing.T) {
	c := conf(2, 2, 50)
	x := of(t, c, quarters())
	x.Get(api.Key{0, 0})
	x.Window(key.Whole(2))
	pages, buckets := x.Reads()
	before := x.State()
	other := x.Copy()
	holds(t, other, c, before)
	if p, b := other.Reads(); p != pages || b != buckets {
		t.Errorf("Reads: %d, %d, want %d, %d", p, b, pages, buckets)
	}
	put(t, other, rec("other", 0, 0), rec("", 1, 1), rec("", half, 2), rec("", half, half))
	other.Get(api.Key{0, 0})
	holds(t, x, c, before)
	after := other.State()
	del(t, x, api.Key{0, 0}, api.Key{half, half - 1})
	put(t, x, rec("this", half-1, most), rec("", 5, 5), rec("", 1<<30, 5))
	holds(t, other, c, after)
	del(t, other.Copy(), api.Key{0, 0}, api.Key{1, 1}, api.Key{half, 2}, api.Key{half, half})
	holds(t, other, c, after)
	if p, b := x.Reads(); p != pages || b != buckets {
		t.Errorf("Reads: %d, %d, want %d, %d", p, b, pages, buckets)
	}
}

// apart expects that records share no memory with others, nor with one another; then it spoils them.
func apart(t *testing.T, l []api.Record, given []api.Record) {
	t.Helper()
	want := copied(l)
	for i, r := range l {
		for _, x := range given {
			at, from := uintptr(unsafe.Pointer(unsafe.StringData(r.Data))), uintptr(unsafe.Pointer(unsafe.StringData(x.Data)))
			if r.Data != "" && at >= from && at < from+uintptr(len(x.Data)) {
				t.Errorf("the text %q is shared", r.Data)
			}
		}
		if !slices.Equal(r.Key, want[i].Key) {
			t.Errorf("two lists share their memory: %v, want %v", r.Key, want[i].Key)
		}
		for at := range r.Key[:cap(r.Key)] {
			r.Key[:cap(r.Key)][at] = 12345
		}
	}
	clear(l[:cap(l)])
}

// R5: what is handed in is not changed and not kept; what is told is new, its spare room too.
func TestNothingIsShared(t *testing.T) {
	c := conf(2, 4, 50)
	s := quarters()
	text := "all of a text"
	s.Buckets[1][0].Data = text[4:6]
	want := copiedState(s)
	x := of(t, c, s)
	given := slices.Concat(s.Buckets...)
	clear(s.Cells)
	for _, l := range s.Buckets {
		apart(t, l, nil)
	}
	holds(t, x, c, want)
	for range 2 {
		told := x.State()
		if !same(told, want) {
			t.Fatalf("State: %v, want %v", told, want)
		}
		for _, l := range told.Buckets {
			apart(t, l, append(given, rec(text)))
		}
		clear(told.Cells[:cap(told.Cells)])
		clear(told.Buckets[:cap(told.Buckets)])
		b := key.Whole(2)
		l, _ := x.Window(b)
		if len(l) != 3 {
			t.Fatalf("Window: %v", l)
		}
		apart(t, l, append(given, rec(text)))
		if !slices.Equal(b.Low, key.Whole(2).Low) || !slices.Equal(b.High, key.Whole(2).High) {
			t.Errorf("Window has changed its box: %v", b)
		}
		holds(t, x, c, want)
	}
	for i := range uint32(20) {
		r := rec(text[:3], i<<26, 40-i)
		put(t, x, r)
		if !slices.Equal(r.Key, api.Key{i << 26, 40 - i}) {
			t.Errorf("Put has changed its record: %v", r)
		}
		apart(t, []api.Record{r}, nil)
		l, _ := x.Window(api.Box{Low: api.Key{i << 26, 40 - i}, High: api.Key{i << 26, 40 - i}})
		if len(l) != 1 || l[0].Data != "all" {
			t.Errorf("Window: %v", l)
		}
		apart(t, l, []api.Record{rec(text)})
	}
	for i := range uint32(20) {
		k := api.Key{i << 26, 40 - i}
		del(t, x, k)
		if !slices.Equal(k, api.Key{i << 26, 40 - i}) {
			t.Errorf("Delete has changed its point: %v", k)
		}
	}
	if l, _ := x.Window(key.Whole(2)); len(l) != 3 {
		t.Errorf("Window: %v", l)
	}
}
