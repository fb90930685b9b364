package grid_test

import (
	"encoding/binary"
	"math"
	"math/rand"
	"slices"
	"strconv"
	"strings"
	"testing"
	"unsafe"

	"cadastre/api"
	"cadastre/atlas"
	"cadastre/bucket"
	"cadastre/grid"
	"cadastre/key"
)

const most = math.MaxUint32

func rec(data string, k ...uint32) api.Record { return api.Record{Key: k, Data: data} }

func conf(dim int, cap int, pages int) api.Config {
	return api.Config{Variant: api.Grid, Dim: dim, Cap: cap, Pages: pages}
}

func sameRecords(a []api.Record, b []api.Record) bool {
	return slices.EqualFunc(a, b, func(a api.Record, b api.Record) bool {
		return slices.Equal(a.Key, b.Key) && a.Data == b.Data
	})
}

func same(a grid.State, b grid.State) bool {
	return a.Scale == b.Scale && slices.Equal(a.Cells, b.Cells) && a.Turn == b.Turn && slices.EqualFunc(a.Buckets, b.Buckets, sameRecords)
}

func copied(l []api.Record) []api.Record {
	out := make([]api.Record, len(l))
	for i, r := range l {
		out[i] = api.Record{Key: slices.Clone(r.Key), Data: strings.Clone(r.Data)}
	}
	return out
}

func copiedState(s grid.State) grid.State {
	out := grid.State{Scale: s.Scale, Cells: slices.Clone(s.Cells), Turn: s.Turn}
	for _, l := range s.Buckets {
		out.Buckets = append(out.Buckets, copied(l))
	}
	return out
}

// bounds are the text of a scale: those of each coordinate.
func bounds(l ...[]uint32) string {
	var out []byte
	for _, coordinate := range l {
		out = append(out, byte(len(coordinate)))
		for _, n := range coordinate {
			out = binary.BigEndian.AppendUint32(out, n)
		}
	}
	return string(out)
}

// boundsOf is what bounds made a text of; false: it made it of nothing that may be.
func boundsOf(dim int, s string) ([][]uint32, bool) {
	var out [][]uint32
	for range dim {
		if s == "" || len(s) < 1+4*int(s[0]) || s[0] > 63 {
			return nil, false
		}
		var l []uint32
		for i := range int(s[0]) {
			l = append(l, binary.BigEndian.Uint32([]byte(s[1+4*i:])))
			if l[i] == 0 || i > 0 && l[i] <= l[i-1] {
				return nil, false
			}
		}
		out, s = append(out, l), s[1+4*len(l):]
	}
	return out, s == ""
}

// boxOf is the box from the begin of one cell to the end of another one.
func boxOf(scale [][]uint32, low []int, high []int) api.Box {
	b := key.Whole(len(scale))
	for at, l := range scale {
		if low[at] > 0 {
			b.Low[at] = l[low[at]-1]
		}
		if high[at] < len(l) {
			b.High[at] = l[high[at]] - 1
		}
	}
	return b
}

func sizeOf(scale [][]uint32) int {
	n := 1
	for _, l := range scale {
		n *= len(l) + 1
	}
	return n
}

// inside is whether all points of a box are in another one.
func inside(a api.Box, b api.Box) bool { return key.In(a.Low, b) && key.In(a.High, b) }

// regionsOf are the boxes of the regions of a state whose Cells fit its Scale; false: the contents may not be.
func regionsOf(dim int, s grid.State) ([]api.Box, bool) {
	scale, _ := boundsOf(dim, s.Scale)
	low, high, number := make([][]int, len(s.Buckets)), make([][]int, len(s.Buckets)), make([]int, len(s.Buckets))
	for p, n := range s.Cells {
		if n < 0 || n >= len(s.Buckets) {
			return nil, false
		}
		if number[n]++; number[n] == 1 {
			low[n], high[n] = slices.Repeat([]int{64}, dim), make([]int, dim)
		}
		for at := dim - 1; at >= 0; at-- {
			i := p % (len(scale[at]) + 1)
			low[n][at], high[n][at] = min(low[n][at], i), max(high[n][at], i)
			p /= len(scale[at]) + 1
		}
	}
	var out []api.Box
	for n := range s.Buckets {
		all := 1 // how many cells there are from low to high
		for at := range low[n] {
			all *= high[n][at] - low[n][at] + 1
		}
		if number[n] != all {
			return nil, false
		}
		out = append(out, boxOf(scale, low[n], high[n]))
	}
	return out, true
}

// wrong is why a state may not be, word by word as the document says it; nothing, if it may.
func wrong(c api.Config, s grid.State) string {
	scale, ok := boundsOf(c.Dim, s.Scale)
	if !ok {
		return "Scale"
	}
	if n := sizeOf(scale); n > 4096 || n != len(s.Cells) {
		return "how many cells"
	}
	regions, ok := regionsOf(c.Dim, s)
	if !ok {
		return "regions"
	}
	for n, l := range s.Buckets {
		if len(l) > c.Cap || bucket.Size(l) > 230 {
			return "a bucket that does not fit"
		}
		for i, r := range l {
			if len(r.Data) > 40 || len(r.Key) != c.Dim {
				return "a record"
			}
			if i > 0 && key.Compare(l[i-1].Key, r.Key) >= 0 {
				return "the order of records"
			}
			if !key.In(r.Key, regions[n]) {
				return "where a record is"
			}
		}
	}
	if s.Turn < 0 {
		return "Turn"
	}
	return ""
}

func pagesOf(s grid.State) int {
	n := 1 + len(s.Buckets)
	for i := 0; i < len(s.Scale); i += 200 {
		n++
	}
	return n + directoryOf(s)
}

// directoryOf is how many pages the directory of a state has.
func directoryOf(s grid.State) int {
	n := len(s.Cells) / 100
	if len(s.Cells)%100 > 0 {
		n++
	}
	return n
}

// blank is the State of a new grid.
func blank(dim int) grid.State {
	return grid.State{Scale: strings.Repeat("\x00", dim), Cells: []int{0}, Buckets: [][]api.Record{nil}}
}

func create(t *testing.T, c api.Config) *grid.Grid {
	t.Helper()
	g, e := grid.New(c)
	if g == nil || e != api.OK {
		t.Fatalf("New(%v): %v, %d", c, g, e)
	}
	return g
}

func of(t *testing.T, c api.Config, s grid.State) *grid.Grid {
	t.Helper()
	g, e := grid.Of(c, s)
	if g == nil || e != api.OK {
		t.Fatalf("Of(%v, %v): %v, %d (%s)", c, s, g, e, wrong(c, s))
	}
	return g
}

func put(t *testing.T, g *grid.Grid, l ...api.Record) {
	t.Helper()
	for _, r := range l {
		if e := g.Put(r); e != api.OK {
			t.Fatalf("Put(%v): %d", r, e)
		}
	}
}

func del(t *testing.T, g *grid.Grid, l ...api.Key) {
	t.Helper()
	for _, k := range l {
		if e := g.Delete(k); e != api.OK {
			t.Fatalf("Delete(%v): %d", k, e)
		}
	}
}

// holds expects of a grid a State, that may be, and its pages.
func holds(t *testing.T, g *grid.Grid, c api.Config, want grid.State) {
	t.Helper()
	s := g.State()
	if !same(s, want) {
		t.Fatalf("State: %v, want %v", s, want)
	}
	if why := wrong(c, s); why != "" {
		t.Fatalf("a State that may not be (%s): %v", why, s)
	}
	if n := g.Pages(); n != pagesOf(s) || n > c.Pages {
		t.Fatalf("Pages: %d, want %d, at most %d", n, pagesOf(s), c.Pages)
	}
}

// P15.1
func TestNew(t *testing.T) {
	for dim := 1; dim <= 6; dim++ {
		for _, cap := range []int{2, 3, 15, 16} {
			for _, pages := range []int{4, 5, 998, 999} {
				for _, variant := range []int{0, 1, 2, 3, -1, 99} {
					c := conf(dim, cap, pages)
					c.Variant = variant
					g := create(t, c)
					holds(t, g, c, blank(dim))
					if n := g.Pages(); n != 4 {
						t.Errorf("Pages: %d", n)
					}
					holds(t, of(t, c, blank(dim)), c, blank(dim))
				}
			}
		}
	}
}

// P15.1: configs that may not be, each for one reason; of them a state is not asked (R2).
func TestConfigsThatMayNotBe(t *testing.T) {
	var l []api.Config
	for _, n := range []int{math.MinInt, -1, 0, 7, 100, 1<<32 + 1, math.MaxInt} {
		l = append(l, conf(n, 4, 50))
	}
	for _, n := range []int{math.MinInt, -2, 0, 1, 17, 1<<32 + 4, math.MaxInt} {
		l = append(l, conf(2, n, 50))
	}
	for _, n := range []int{math.MinInt, -50, 0, 3, 1000, 1<<32 + 50, math.MaxInt} {
		l = append(l, conf(2, 4, n))
	}
	for _, c := range append(l, api.Config{}) {
		if g, e := grid.New(c); g != nil || e != api.BadRequest {
			t.Errorf("New(%v): %v, %d", c, g, e)
		}
		for _, s := range []grid.State{blank(2), {}, {Turn: -1}} {
			if g, e := grid.Of(c, s); g != nil || e != api.BadRequest {
				t.Errorf("Of(%v, %v): %v, %d", c, s, g, e)
			}
		}
	}
}

// quarters is a state of two coordinates: three regions, of which the first one has two cells.
func quarters() grid.State {
	return grid.State{
		Scale: bounds([]uint32{10}, []uint32{20}), Cells: []int{1, 1, 0, 2},
		Buckets: [][]api.Record{{rec("a", 10, 19)}, {rec("b", 0, 0), rec("c", 9, most)}, nil}, Turn: 7,
	}
}

// row is a state of one coordinate with so many bounds: 10, 20, and so on; each interval has a bucket, with one record.
func row(n int) grid.State {
	s := grid.State{Turn: n}
	var l []uint32
	for i := range n + 1 {
		if i > 0 {
			l = append(l, uint32(10*i))
		}
		s.Cells = append(s.Cells, i)
		s.Buckets = append(s.Buckets, []api.Record{rec(strconv.Itoa(i), uint32(10*i))})
	}
	s.Scale = bounds(l)
	return s
}

// wide is a state of one bucket, without records, whose coordinates have so many intervals: the bounds are 1, 2 and so on.
func wide(sizes ...int) grid.State {
	s := grid.State{Buckets: [][]api.Record{nil}}
	cells := 1
	var l [][]uint32
	for _, size := range sizes {
		var rising []uint32
		for i := range size - 1 {
			rising = append(rising, uint32(i+1))
		}
		l, cells = append(l, rising), cells*size
	}
	s.Scale, s.Cells = bounds(l...), make([]int, cells)
	return s
}

// P15.1: the grid of a state that was told is one whose State it is, and has its records.
func TestOf(t *testing.T) {
	for _, x := range []struct {
		c api.Config
		s grid.State
	}{
		{conf(2, 2, 6), quarters()}, {conf(2, 16, 999), quarters()}, {conf(1, 2, 999), row(63)}, {conf(1, 2, 68), row(63)}, {conf(1, 2, 53), row(49)}, {conf(1, 2, 55), row(50)},
		{conf(2, 2, 46), wide(64, 64)}, {conf(6, 2, 999), wide(4, 4, 4, 4, 4, 4)}, {conf(3, 5, 999), wide(16, 16, 16)}, {conf(3, 2, 999), wide(1, 64, 2)}, {conf(2, 2, 4), wide(10, 10)},
		{conf(1, 2, 5), grid.State{Scale: bounds([]uint32{most}), Cells: []int{1, 0}, Buckets: [][]api.Record{{rec("", most)}, {rec("", 0), rec(strings.Repeat("x", 40), most-1)}}, Turn: math.MaxInt}},
	} {
		before := copiedState(x.s)
		g := of(t, x.c, x.s)
		holds(t, g, x.c, before)
		if !same(x.s, before) {
			t.Errorf("Of has changed %v to %v", before, x.s)
		}
		for _, l := range before.Buckets {
			for _, r := range l {
				if have, e := g.Get(r.Key); have != r.Data || e != api.OK {
					t.Errorf("Get(%v): %q, %d", r.Key, have, e)
				}
			}
		}
	}
}

// refusesOf expects that a state may not be, and that it may without one change.
func refusesOf(t *testing.T, c api.Config, s grid.State, why string, change func(s *grid.State)) {
	t.Helper()
	of(t, c, s)
	s = copiedState(s)
	change(&s)
	if have := wrong(c, s); have != why {
		t.Errorf("%v: %q, want %q", s, have, why)
	}
	if g, e := grid.Of(c, s); g != nil || e != api.ErrForm {
		t.Errorf("Of(%v, %v): %v, %d", c, s, g, e)
	}
}

// P15.1: states that may not be, each for one reason.
func TestStatesThatMayNotBe(t *testing.T) {
	c := conf(2, 2, 99)
	for _, text := range []string{
		"", "\x00", bounds([]uint32{10}), bounds([]uint32{10}, []uint32{20})[:9], bounds([]uint32{10}, []uint32{20}) + "\x00", bounds([]uint32{0}, []uint32{20}), bounds([]uint32{10}, []uint32{20}, nil),
		bounds([]uint32{10, 10}, []uint32{20}), bounds([]uint32{10, 9}, []uint32{20}), bounds([]uint32{10}, slices.Repeat([]uint32{1}, 64)),
	} {
		refusesOf(t, c, quarters(), "Scale", func(s *grid.State) { s.Scale = text })
	}
	for _, cells := range [][]int{nil, {0}, {1, 1, 0}, {1, 1, 0, 2, 2}} {
		refusesOf(t, c, quarters(), "how many cells", func(s *grid.State) { s.Cells = cells })
	}
	refusesOf(t, conf(3, 2, 99), wide(16, 16, 16), "how many cells", func(s *grid.State) { *s = wide(16, 16, 17) })
	refusesOf(t, conf(6, 2, 99), wide(4, 4, 4, 4, 4, 4), "how many cells", func(s *grid.State) { s.Scale = bounds(slices.Repeat([][]uint32{{1, 2, 3, 4}}, 6)...) })
	for _, cells := range [][]int{{1, 0, 0, 2}, {1, 0, 2, 1}, {1, 1, 0, 0}, {1, 1, 0, 3}, {1, 1, 0, -1}, {2, 2, 1, 3}, {1, 1, 1, 1}, {0, 1, 1, 2}, {2, 2, 0, math.MaxInt}} {
		refusesOf(t, c, quarters(), "regions", func(s *grid.State) { s.Cells = cells })
	}
	for _, n := range []int{0, 1, 2, 4, 5} {
		refusesOf(t, c, quarters(), "regions", func(s *grid.State) { s.Buckets = append(s.Buckets, nil, nil)[:n] })
	}
	for why, buckets := range map[string][][]api.Record{
		"a bucket that does not fit": {{rec("", 0, 0), rec("", 1, 0), rec("", 2, 0)}},
		"a record":                   {{rec("", 0)}, {rec("", 0, 0, 0)}, {rec("")}, {rec(strings.Repeat("x", 41), 0, 0)}},
		"the order of records":       {{rec("", 1, 0), rec("", 0, 9)}, {rec("a", 1, 0), rec("b", 1, 0)}},
		"where a record is":          {{rec("", 10, 0)}, {rec("", 0, 0), rec("", 10, 20)}, {rec("", most, most)}},
	} {
		for _, l := range buckets {
			refusesOf(t, c, quarters(), why, func(s *grid.State) { s.Buckets[1] = l })
		}
	}
	big := []api.Record{rec(strings.Repeat("x", 40), 0, 0), rec(strings.Repeat("x", 40), 1, 0), rec(strings.Repeat("x", 40), 2, 0), rec(strings.Repeat("x", 40), 3, 0), rec(strings.Repeat("x", 25), 4, 0)}
	if n := bucket.Size(big); n != 231 {
		t.Fatalf("Size: %d", n)
	}
	refusesOf(t, conf(2, 16, 99), quarters(), "a bucket that does not fit", func(s *grid.State) { s.Buckets[1] = big })
	big[4].Data = big[4].Data[1:]
	s := quarters()
	s.Buckets[1] = big
	of(t, conf(2, 16, 99), s)
	for _, n := range []int{-1, math.MinInt} {
		refusesOf(t, c, quarters(), "Turn", func(s *grid.State) { s.Turn = n })
	}
}

// P15.1: a state that may be, but has more pages than the config's.
func TestStatesOfTooManyPages(t *testing.T) {
	for _, x := range []struct {
		dim   int
		s     grid.State
		pages int
	}{
		{2, quarters(), 6}, {1, row(1), 5}, {1, row(49), 53}, {1, row(50), 55}, {1, row(63), 68},
		{4, wide(50, 1, 1, 1), 4}, {5, wide(50, 1, 1, 1, 1), 5}, {2, wide(10, 10), 4}, {2, wide(10, 11), 5}, {2, wide(20, 10), 5}, {2, wide(25, 25), 10}, {2, wide(26, 25), 10}, {2, wide(26, 26), 11}, {2, wide(64, 64), 46}, {6, wide(4, 4, 4, 4, 4, 4), 44},
	} {
		if n := of(t, conf(x.dim, 2, x.pages), x.s).Pages(); n != x.pages {
			t.Errorf("Pages of %v: %d, want %d", x.s, n, x.pages)
		}
		if c := conf(x.dim, 2, x.pages-1); x.pages > 4 {
			if g, e := grid.Of(c, x.s); g != nil || e != api.ErrForm {
				t.Errorf("Of(%v, %v): %v, %d", c, x.s, g, e)
			}
		}
	}
}

// P15.1: all directories of few cells.
func TestSmallDirectories(t *testing.T) {
	for _, x := range []struct {
		c     api.Config
		scale string
		cells int
	}{{conf(1, 2, 9), bounds([]uint32{5, 9}), 3}, {conf(2, 2, 9), bounds([]uint32{5}, []uint32{9}), 4}, {conf(2, 2, 9), bounds(nil, []uint32{9}), 2}} {
		some := 0
		for buckets := range 6 {
			s := grid.State{Scale: x.scale, Cells: slices.Repeat([]int{-1}, x.cells), Buckets: make([][]api.Record, buckets)}
			for more := true; more; more = next(s.Cells) {
				want := api.ErrForm
				if wrong(x.c, s) == "" {
					want = api.OK
					some++
				}
				if g, e := grid.Of(x.c, s); e != want || (g == nil) != (e != api.OK) {
					t.Fatalf("Of(%v): %v, %d, want %d", s, g, e, want)
				}
			}
		}
		if some < x.cells {
			t.Errorf("%d states of %q may be", some, x.scale)
		}
	}
}

// next makes of contents from -1 to 4 the ones behind them; false: they were the last ones.
func next(cells []int) bool {
	for p := range cells {
		if cells[p] < 4 {
			cells[p]++
			return true
		}
		cells[p] = -1
	}
	return false
}

// three are records of any three points.
func three(a api.Key, b api.Key, c api.Key) []api.Record {
	return []api.Record{{Key: a}, {Key: b}, {Key: c}}
}

// Example 1: of any three points.
func TestThreePoints(t *testing.T) {
	l := [][]api.Record{
		three(api.Key{0}, api.Key{1}, api.Key{2}), three(api.Key{2}, api.Key{1}, api.Key{0}), three(api.Key{0}, api.Key{1 << 31}, api.Key{most}), three(api.Key{most}, api.Key{most - 1}, api.Key{most - 2}),
		three(api.Key{5, 5}, api.Key{5, 6}, api.Key{5, 7}), three(api.Key{5, 5}, api.Key{6, 6}, api.Key{7, 7}), three(api.Key{5, 5}, api.Key{5, 6}, api.Key{6, 5}), three(api.Key{1 << 31, 0, 0}, api.Key{0, 1 << 31, 0}, api.Key{0, 0, 1 << 31}),
		three(api.Key{9, 9, 9, 9, 9, 9}, api.Key{9, 9, 9, 9, 9, 8}, api.Key{9, 9, 9, 9, 9, 7}), three(api.Key{1, 2, 3, 4, 5, 6}, api.Key{2, 3, 4, 5, 6, 7}, api.Key{3, 4, 5, 6, 7, 8}),
	}
	r := rand.New(rand.NewSource(1))
	for range 300 {
		var x []api.Record
		for len(x) < 3 {
			k := make(api.Key, 1+len(l)%6)
			for at := range k {
				k[at] = r.Uint32() >> r.Intn(33)
			}
			if _, is := bucket.Find(x, k); !is {
				x = bucket.Put(x, api.Record{Key: k})
			}
		}
		l = append(l, x)
	}
	for _, x := range l {
		c := conf(len(x[0].Key), 2, 5)
		g := create(t, c)
		put(t, g, x...)
		s := g.State()
		holds(t, g, c, s)
		if bounds := (len(s.Scale) - c.Dim) / 4; len(s.Buckets) != 2 || bounds != 1 {
			t.Errorf("%v: %d buckets, %d bounds", x, len(s.Buckets), bounds)
		}
	}
}

// P15.2: a bucket is split at a bound that is there already: no bound and no cell comes to be.
func TestSplitAtABoundThatIsThere(t *testing.T) {
	for _, x := range []struct {
		s grid.State
		l []api.Record
	}{
		{wide(2), []api.Record{rec("", 0), rec("", 1), rec("", 2)}}, {wide(64), []api.Record{rec("", 40), rec("", 41), rec("", 40000)}}, {wide(64, 64), []api.Record{rec("", 700, 50), rec("", 800, 51), rec("", 900, 51)}},
		{wide(4, 4, 4, 4, 4, 4), []api.Record{rec("", 9, 9, 9, 9, 9, 9), rec("", 9, 9, 9, 9, 8, 9), rec("", 9, 9, 9, 9, 9, 2)}},
	} {
		c := conf(len(x.l[0].Key), 2, pagesOf(x.s)+1)
		x.s.Turn = 5
		g := of(t, c, x.s)
		put(t, g, x.l...)
		s := g.State()
		holds(t, g, c, s)
		if s.Scale != x.s.Scale || len(s.Buckets) != 2 || s.Turn != 5 {
			t.Errorf("Put of %v in %v: %v", x.l, x.s, s)
		}
	}
}

// P15.2: of the bounds that are there that one which parts the records evenly.
func TestSplitEvenly(t *testing.T) {
	c := conf(1, 4, 20)
	s := wide(64)
	s.Buckets[0] = []api.Record{rec("", 3), rec("", 9), rec("", 20), rec("", 50)}
	g := of(t, c, s)
	put(t, g, rec("", 40))
	for n, l := range g.State().Buckets {
		if want := []int{2, 3}[n]; len(l) != want && len(l) != 5-want {
			t.Errorf("bucket %d: %v", n, l)
		}
	}
}

// P15.2: a bucket is split at a new bound: one more, and Turn is one more.
func TestSplitAtANewBound(t *testing.T) {
	c := conf(2, 2, 999)
	g := of(t, c, quarters())
	put(t, g, rec("d", 9, most-1))
	s := g.State()
	holds(t, g, c, s)
	if len(s.Buckets) != 4 || s.Scale != quarters().Scale || s.Turn != 7 {
		t.Fatalf("at a bound that is there: %v", s)
	}
	put(t, g, rec("e", 9, most-2))
	s = g.State()
	holds(t, g, c, s)
	scale, _ := boundsOf(2, s.Scale)
	if len(s.Buckets) != 5 || !slices.Equal(scale[0], []uint32{10}) || !slices.Equal(scale[1], []uint32{20, most - 1}) || len(s.Cells) != 6 || s.Turn != 8 {
		t.Errorf("at a new one: %v", s)
	}
}

// P15.2: the coordinates take turns, where there is a choice.
func TestTurns(t *testing.T) {
	for turn := range 12 {
		c := conf(3, 2, 99)
		s := blank(3)
		s.Turn = turn
		g := of(t, c, s)
		put(t, g, rec("", 0, 0, 0), rec("", 1<<31, 1<<31, 1<<31), rec("", most, most, most))
		want := make([][]uint32, 3)
		want[turn%3] = []uint32{1 << 31}
		if have := g.State(); have.Scale != bounds(want...) || have.Turn != turn+1 {
			t.Errorf("Turn %d: %v", turn, have)
		}
	}
}

// P15.2: what a bucket was split into does not fit yet, and is split again.
func TestSplitAgain(t *testing.T) {
	c := conf(1, 16, 7)
	big := strings.Repeat("x", 40)
	g := create(t, c)
	put(t, g, rec("", 1<<31), rec(big, 1), rec(big, 2), rec(big, 3), rec(big, 4), rec(big[1:], 5))
	if s := g.State(); len(s.Buckets) != 1 || bucket.Size(s.Buckets[0]) != 230 {
		t.Fatalf("ahead of it: %v", s)
	}
	put(t, g, rec(big, 6))
	s := g.State()
	holds(t, g, c, s)
	if len(s.Buckets) != 3 || s.Scale != bounds([]uint32{4, 1 << 31}) || s.Turn != 2 {
		t.Errorf("behind it: %v", s)
	}
}

// refusesPut expects of a Put an error, and nothing changed.
func refusesPut(t *testing.T, g *grid.Grid, r api.Record, want api.Errno) {
	t.Helper()
	before, pages, buckets := g.State(), 0, 0
	pages, buckets = g.Reads()
	if e := g.Put(r); e != want {
		t.Errorf("Put(%v): %d, want %d", r, e, want)
	}
	if s := g.State(); !same(s, before) {
		t.Errorf("Put(%v) has changed %v to %v", r, before, s)
	}
	if p, b := g.Reads(); p != pages || b != buckets {
		t.Errorf("Put(%v): Reads %d, %d, ahead of it %d, %d", r, p, b, pages, buckets)
	}
}

// P15.2: 63 bounds of a coordinate.
func TestDirectoryLimitOfBounds(t *testing.T) {
	c := conf(1, 2, 999)
	g := create(t, c)
	for i := range uint32(128) {
		put(t, g, rec("", i))
	}
	holds(t, g, c, g.State())
	for _, n := range []uint32{128, most, 1 << 31} {
		refusesPut(t, g, rec("", n), api.DirectoryLimit)
	}
	put(t, g, rec("x", 127), rec("x", 0))
	full := wide(64, 1)
	full.Buckets[0] = []api.Record{rec("", 100, 5), rec("", 200, 5)}
	g = of(t, conf(2, 2, 999), full)
	refusesPut(t, g, rec("", 300, 5), api.DirectoryLimit)
	put(t, g, rec("", 300, 6)) // the other coordinate may have a bound
	if s := g.State(); len(s.Cells) != 128 || len(s.Buckets) != 2 {
		t.Errorf("the other coordinate: %v", s)
	}
}

// P15.2: 4096 cells.
func TestDirectoryLimitOfCells(t *testing.T) {
	for _, sizes := range [][]int{{64, 64}, {16, 16, 16}, {4, 4, 4, 4, 4, 4}, {64, 64, 1}, {33, 62, 2}, {8, 8, 8, 8}, {5, 5, 5, 5, 6}} {
		dim := len(sizes)
		s := wide(sizes...)
		last := slices.Repeat(api.Key{1000}, dim)
		s.Buckets[0] = []api.Record{{Key: last}, {Key: slices.Repeat(api.Key{1001}, dim)}}
		g := of(t, conf(dim, 2, 999), s)
		for at := range dim {
			k := slices.Clone(last)
			k[at] += 7
			refusesPut(t, g, api.Record{Key: k}, api.DirectoryLimit)
		}
		put(t, g, api.Record{Key: make(api.Key, dim)}) // at a bound that is there
		holds(t, g, conf(dim, 2, 999), g.State())
	}
	s := wide(64, 63)
	s.Buckets[0] = []api.Record{rec("", 100, 100), rec("", 100, 200)}
	g := of(t, conf(2, 2, 999), s)
	put(t, g, rec("", 100, 300), rec("", 100, 301))
	if n := len(g.State().Cells); n != 4096 {
		t.Errorf("%d cells", n)
	}
	refusesPut(t, g, rec("", 100, 302), api.DirectoryLimit)
	// the first coordinate may have no bound more, the last one may
	s = wide(2, 32, 63)
	s.Buckets[0] = []api.Record{rec("", 100, 100, 100), rec("", 101, 100, 101)}
	g = of(t, conf(3, 2, 999), s)
	put(t, g, rec("", 102, 100, 103))
	have := g.State()
	holds(t, g, conf(3, 2, 999), have)
	if len(have.Cells) != 4096 || len(have.Buckets) != 2 || have.Turn != 1 {
		t.Errorf("%d cells, %d buckets, Turn %d", len(have.Cells), len(have.Buckets), have.Turn)
	}
}

// P15.2, R2: where there would be too many bounds and too many pages, DirectoryLimit; it is BadRequest, if the record may not be.
func TestDirectoryLimitAheadOfDiskFull(t *testing.T) {
	s := row(63)
	s.Buckets[63] = []api.Record{rec("", 700), rec("", 800)}
	g := of(t, conf(1, 2, 68), s)
	refusesPut(t, g, rec("", 900), api.DirectoryLimit)
	refusesPut(t, g, rec(strings.Repeat("x", 41), 900), api.BadRequest)
	refusesPut(t, g, rec("", 900, 1), api.BadRequest)
	// what would first be split at a bound that is there, and then could be no more
	big := strings.Repeat("x", 40)
	s = wide(64)
	s.Buckets[0] = []api.Record{rec("", 0), rec(big, 101), rec(big, 102), rec(big, 103), rec(big, 104), rec(big[1:], 105)}
	g = of(t, conf(1, 16, 5), s)
	refusesPut(t, g, rec(big, 106), api.DirectoryLimit)
}

// P15.2: each thing by which there may be more pages than Pages.
func TestDiskFull(t *testing.T) {
	g := create(t, conf(1, 2, 4))
	put(t, g, rec("", 7), rec("", 9))
	for _, n := range []uint32{0, 8, 1 << 31, most} {
		refusesPut(t, g, rec("", n), api.DiskFull)
	}
	put(t, g, rec("x", 9), rec("y", 7)) // these are there
	for _, x := range []struct {
		s    grid.State
		r    api.Record
		more int
	}{
		{row(9), rec("", 95), 1}, {row(48), rec("", 485), 1}, {row(49), rec("", 495), 2}, {row(50), rec("", 505), 1}, // a text of 197 bytes is one page, of 201 two
		{wide(10, 10), rec("", 100, 103), 2}, {wide(9, 11), rec("", 100, 103), 2}, {wide(9, 10), rec("", 100, 103), 1}, {wide(40, 50), rec("", 100, 103), 2}, {wide(10, 10), rec("", 0, 0), 1},
	} {
		dim, last := len(x.r.Key), len(x.s.Buckets)-1
		low := slices.Clone(x.r.Key)
		if low[dim-1]++; len(x.s.Buckets) == 1 {
			low = api.Key{100, 101}
		}
		x.s.Buckets[last] = []api.Record{{Key: low}, {Key: slices.Clone(low)}}
		x.s.Buckets[last][1].Key[dim-1]++
		for extra := range x.more {
			refusesPut(t, of(t, conf(dim, 2, pagesOf(x.s)+extra), x.s), x.r, api.DiskFull)
		}
		c := conf(dim, 2, pagesOf(x.s)+x.more)
		g := of(t, c, x.s)
		put(t, g, x.r)
		holds(t, g, c, g.State())
		if g.Pages() != c.Pages {
			t.Errorf("Put(%v) in %v: %d pages more, want %d", x.r, x.s, g.Pages()-pagesOf(x.s), x.more)
		}
	}
}

// P15.2: too many bytes, though not too many records; what is put in the place of one with more Data, too.
func TestBytesThatDoNotFit(t *testing.T) {
	big := strings.Repeat("x", 40)
	full := []api.Record{rec(big, 1), rec(big, 2), rec(big, 3), rec(big, 4), rec(big, 5)} // 226 bytes
	g := create(t, conf(1, 16, 4))
	put(t, g, full...)
	refusesPut(t, g, rec("", 6), api.DiskFull)
	put(t, g, rec(big[:39], 5))
	put(t, g, rec("", 6)) // 230 bytes
	refusesPut(t, g, rec("x", 6), api.DiskFull)
	refusesPut(t, g, rec(big, 5), api.DiskFull)
	put(t, g, rec("", 1))
	put(t, g, rec(big, 5))
	g = create(t, conf(1, 16, 5))
	put(t, g, full...)
	put(t, g, rec("", 6))
	if s := g.State(); len(s.Buckets) != 2 {
		t.Errorf("%v", s)
	}
}

// P15.2: a record whose bucket, with it, fits is put however few pages are left.
func TestWhatFitsIsPut(t *testing.T) {
	c := conf(1, 2, 68)
	g := of(t, c, row(63))
	for i := range uint32(64) {
		put(t, g, rec("more", 10*i+1), rec("again", 10*i))
	}
	s := g.State()
	holds(t, g, c, s)
	if s.Scale != row(63).Scale || s.Turn != 63 || len(s.Buckets) != 64 {
		t.Errorf("%v", s)
	}
}

// P15.2: Turn is added to by a Put alone, and no more than may be laid on pages.
func TestTurnIsNotTooMuch(t *testing.T) {
	for _, x := range [][2]int{{0, 1}, {1, 2}, {65534, 65535}, {65535, 65535}, {65536, 65536}, {math.MaxInt, math.MaxInt}} {
		s := blank(6)
		s.Turn = x[0]
		c := conf(6, 2, 99)
		g := of(t, c, s)
		put(t, g, rec("", 1, 1, 1, 1, 1, 1), rec("", 2, 2, 2, 2, 2, 2), rec("", 3, 3, 3, 3, 3, 3))
		s = g.State()
		holds(t, g, c, s)
		if s.Turn != x[1] {
			t.Errorf("Turn %d: %d behind a Put", x[0], s.Turn)
		}
		del(t, g, api.Key{1, 1, 1, 1, 1, 1})
		if s = g.State(); s.Turn != x[1] {
			t.Errorf("Turn %d: %d behind a Delete", x[0], s.Turn)
		}
	}
}

// P15.3: buddies are put together, by hand.
func TestBuddiesArePutTogether(t *testing.T) {
	c := conf(1, 2, 99)
	g := create(t, c)
	put(t, g, rec("", 1), rec("", 2), rec("", 3))
	del(t, g, api.Key{3})
	holds(t, g, c, grid.State{Scale: "\x00", Cells: []int{0}, Buckets: [][]api.Record{{rec("", 1), rec("", 2)}}, Turn: 1})
	// three of four: the others are one box each with their buddies
	c = conf(2, 4, 99)
	s := grid.State{Scale: bounds([]uint32{10}, []uint32{20}), Cells: []int{3, 1, 2, 0}, Buckets: [][]api.Record{
		{rec("", 10, 20), rec("", 11, 20), rec("", 12, 20), rec("", 13, 20)}, {rec("", 0, 20)}, {rec("", 10, 0), rec("", 11, 0), rec("", 12, 0), rec("", 13, 0)}, {rec("", 0, 0), rec("", 1, 0), rec("", 2, 0), rec("", 3, 0)},
	}}
	g = of(t, c, s)
	del(t, g, api.Key{2, 0})
	s.Cells = []int{1, 1, 2, 0}
	s.Buckets[1] = []api.Record{rec("", 0, 0), rec("", 0, 20), rec("", 1, 0), rec("", 3, 0)}
	s.Buckets = s.Buckets[:3]
	holds(t, g, c, s)
	// what comes of two is put together with a third one, and bounds at which nothing ends go
	c = conf(1, 3, 99)
	s = grid.State{Scale: bounds([]uint32{10, 20, 30}), Cells: []int{2, 0, 1, 3}, Buckets: [][]api.Record{{rec("", 10)}, {rec("", 20)}, {rec("", 0)}, {rec("", 30), rec("", 31)}}}
	g = of(t, c, s)
	del(t, g, api.Key{20})
	holds(t, g, c, grid.State{Scale: bounds([]uint32{30}), Cells: []int{0, 1}, Buckets: [][]api.Record{{rec("", 0), rec("", 10)}, {rec("", 30), rec("", 31)}}})
}

// P15.3: buckets that would not fit are not put together, nor are buckets that are no buddies.
func TestOthersAreNotPutTogether(t *testing.T) {
	big := strings.Repeat("x", 40)
	for i, x := range []struct {
		c api.Config
		s grid.State
		k api.Key
	}{
		{conf(1, 2, 99), grid.State{Scale: bounds([]uint32{10}), Cells: []int{0, 1}, Buckets: [][]api.Record{{rec("", 1), rec("", 2)}, {rec("", 11), rec("", 12)}}}, api.Key{1}},
		{conf(1, 9, 99), grid.State{Scale: bounds([]uint32{10}), Cells: []int{1, 0}, Buckets: [][]api.Record{{rec(big, 11), rec(big, 12), rec(big, 13), rec(big, 14), rec("", 15)}, {rec(big, 1), rec(big, 2)}}}, api.Key{15}},
		// the other two are no box with the first one
		{conf(2, 4, 99), grid.State{Scale: bounds([]uint32{10}, []uint32{10}), Cells: []int{0, 0, 1, 2}, Buckets: [][]api.Record{{rec("", 0, 0), rec("", 0, 1)}, {rec("", 10, 0)}, {rec("", 10, 10)}}}, api.Key{0, 0}},
		// of a ring of four around a fifth no two are one box
		{conf(2, 4, 99), ring(0), api.Key{0, 0}}, {conf(2, 4, 99), ring(0), api.Key{10, 10}},
		// of that ring one is split: its parts are one box, but the ring's ones are not split off them
		{conf(2, 2, 99), ring(5), api.Key{0, 11}},
	} {
		g := of(t, x.c, x.s)
		del(t, g, x.k)
		want := copiedState(x.s)
		for n, l := range want.Buckets {
			want.Buckets[n], _ = bucket.Cut(l, x.k)
		}
		if s := g.State(); !same(s, want) {
			t.Errorf("case %d: %v, want %v", i, s, want)
		}
	}
}

// ring is a state of four regions around a fifth one, of which no two are one box; with 5 the first one is split in two, that are.
func ring(split int) grid.State {
	s := grid.State{Scale: bounds([]uint32{10, 20}, []uint32{10, 20}), Cells: []int{0, split, 1, 2, 4, 1, 2, 3, 3}}
	s.Buckets = [][]api.Record{{rec("", 0, 0), rec("", 0, 1)}, {rec("", 0, 20)}, {rec("", 10, 0), rec("", 20, 0)}, {rec("", 20, 10)}, {rec("", 10, 10), rec("", 11, 11)}}
	if split == 5 {
		s.Buckets[0] = []api.Record{rec("", 0, 1)}
		s.Buckets = append(s.Buckets, []api.Record{rec("", 0, 10), rec("", 0, 11)})
	}
	return s
}

// buddiesAlone is whether regions are what came of splitting one box again and again, into two each time.
func buddiesAlone(regions []api.Box) bool {
	if len(regions) == 1 {
		return true
	}
	for at := range regions[0].Low {
		for _, b := range regions {
			below, others, through := cutAt(regions, at, b.Low[at])
			if through || len(below) == 0 || len(others) == 0 {
				continue
			}
			return buddiesAlone(below) && buddiesAlone(others)
		}
	}
	return false
}

// cutAt parts regions by a bound of a coordinate; true: one of them is on both sides of it.
func cutAt(regions []api.Box, at int, bound uint32) ([]api.Box, []api.Box, bool) {
	var below, others []api.Box
	for _, b := range regions {
		switch {
		case b.High[at] < bound:
			below = append(below, b)
		case b.Low[at] >= bound:
			others = append(others, b)
		default:
			return nil, nil, true
		}
	}
	return below, others, false
}

// joined is the box that two boxes are all of; false: there is none.
func joined(a api.Box, b api.Box) (api.Box, bool) {
	unlike := -1
	for at := range a.Low {
		if a.Low[at] == b.Low[at] && a.High[at] == b.High[at] {
			continue
		}
		if unlike >= 0 || uint64(a.High[at])+1 != uint64(b.Low[at]) && uint64(b.High[at])+1 != uint64(a.Low[at]) {
			return api.Box{}, false
		}
		unlike = at
	}
	out := api.Box{Low: slices.Clone(a.Low), High: slices.Clone(a.High)}
	out.Low[unlike], out.High[unlike] = min(a.Low[unlike], b.Low[unlike]), max(a.High[unlike], b.High[unlike])
	return out, true
}

// walk is a long row of calls of a grid, and of another one like it, beside an atlas.
type walk struct {
	c        api.Config
	r        *rand.Rand
	g, again *grid.Grid
	a        *atlas.Atlas
	data     int // how many bytes Data may have
	point    func() api.Key
	puts     int // of ten calls that change something
	errors   [10]int
}

func (w *walk) step(t *testing.T) {
	t.Helper()
	before := w.g.State()
	k := w.point()
	if all := w.a.All(); len(all) > 0 && w.r.Intn(3) == 0 {
		k = all[w.r.Intn(len(all))].Key
	}
	pages, buckets := w.g.Reads()
	if w.r.Intn(10) < w.puts {
		w.put(t, before, api.Record{Key: k, Data: strings.Repeat("d", w.r.Intn(w.data+1))})
	} else {
		if all := w.a.All(); len(all) > 0 && w.r.Intn(4) > 0 {
			k = all[w.r.Intn(len(all))].Key
		}
		w.del(t, before, k)
	}
	if p, b := w.g.Reads(); p != pages || b != buckets {
		t.Fatalf("Reads: %d, %d, ahead of a change %d, %d", p, b, pages, buckets)
	}
	w.ask(t, k)
}

func (w *walk) put(t *testing.T, before grid.State, r api.Record) {
	t.Helper()
	e := w.g.Put(r)
	if again := w.again.Put(r); again != e {
		t.Fatalf("Put(%v): %d, again %d", r, e, again)
	}
	w.errors[e]++
	s := w.g.State()
	if want := atlas.Check(r, w.c.Dim); e == api.BadRequest || want != api.OK {
		if e != want || !same(s, before) {
			t.Fatalf("Put(%v): %d, want %d", r, e, want)
		}
		return
	}
	n := slices.IndexFunc(regions(t, w.c, before), func(b api.Box) bool { return key.In(r.Key, b) })
	fits := bucket.Fits(bucket.Put(before.Buckets[n], r), w.c.Cap)
	switch {
	case e == api.OK:
		w.a.Put(r)
		if s.Turn < before.Turn || s.Turn > before.Turn+999 {
			t.Fatalf("Turn: %d, ahead of a Put %d", s.Turn, before.Turn)
		}
		if fits != (len(s.Buckets) == len(before.Buckets)) || fits && (s.Scale != before.Scale || !slices.Equal(s.Cells, before.Cells) || s.Turn != before.Turn) {
			t.Fatalf("Put(%v), which fits or not (%t), of %v: %v", r, fits, before, s)
		}
	case e == api.DiskFull && !fits && pagesOf(before)+20 > w.c.Pages, e == api.DirectoryLimit && !fits && limited(w.c.Dim, before):
		if !same(s, before) {
			t.Fatalf("Put(%v): %d, and %v is %v", r, e, before, s)
		}
	default:
		t.Fatalf("Put(%v), which fits or not (%t), of %v: %d", r, fits, before, e)
	}
}

// limited is whether in one coordinate at least there may be no two bounds more.
func limited(dim int, s grid.State) bool {
	scale, _ := boundsOf(dim, s.Scale)
	return slices.ContainsFunc(scale, func(l []uint32) bool { return len(l) > 61 || len(s.Cells)/(len(l)+1)*(len(l)+3) > 4096 })
}

func regions(t *testing.T, c api.Config, s grid.State) []api.Box {
	t.Helper()
	l, ok := regionsOf(c.Dim, s)
	if !ok {
		t.Fatalf("a State that may not be (%s): %v", wrong(c, s), s)
	}
	return l
}

func (w *walk) del(t *testing.T, before grid.State, k api.Key) {
	t.Helper()
	want := w.a.Delete(k)
	if e, again := w.g.Delete(k), w.again.Delete(k); e != want || again != want {
		t.Fatalf("Delete(%v): %d, again %d, want %d", k, e, again, want)
	}
	s := w.g.State()
	switch {
	case want != api.OK:
		if !same(s, before) {
			t.Fatalf("Delete(%v): %d, and %v is %v", k, want, before, s)
		}
	case w.a.Len() == 0:
		holds(t, w.g, w.c, blank(w.c.Dim))
	default:
		if pagesOf(s) > pagesOf(before) || len(s.Scale) > len(before.Scale) || len(s.Cells) > len(before.Cells) || len(s.Buckets) > len(before.Buckets) || s.Turn != before.Turn {
			t.Fatalf("Delete(%v) of %v: %v", k, before, s)
		}
		gathered(t, w.c, s, k)
	}
}

// gathered expects that the regions are what came of splitting, and that the bucket of a point has no buddy with which it fits into one.
func gathered(t *testing.T, c api.Config, s grid.State, k api.Key) {
	t.Helper()
	l := regions(t, c, s)
	if !buddiesAlone(l) {
		t.Fatalf("the regions did not come of splitting: %v", s)
	}
	n := slices.IndexFunc(l, func(b api.Box) bool { return key.In(k, b) })
	for m, b := range l {
		if m == n || !bucket.Fits(slices.Concat(s.Buckets[n], s.Buckets[m]), c.Cap) {
			continue
		}
		if u, is := joined(l[n], b); is {
			others := slices.DeleteFunc(slices.Clone(l), func(b api.Box) bool { return inside(b, u) })
			if buddiesAlone(append(others, u)) {
				t.Fatalf("behind the Delete of %v the buckets %d and %d were not put together: %v", k, n, m, s)
			}
		}
	}
}

// ask expects of Get and Window what the atlas tells, and of Reads what they read.
func (w *walk) ask(t *testing.T, k api.Key) {
	t.Helper()
	pages, buckets := w.g.Reads()
	want, f := w.a.Get(k)
	if s, e := w.g.Get(k); s != want || e != f {
		t.Fatalf("Get(%v): %q, %d, want %q, %d", k, s, e, want, f)
	}
	morePages, moreBuckets := w.g.Reads()
	if n := min(1, len(k)/w.c.Dim); len(k) == w.c.Dim && (morePages != pages+n || moreBuckets != buckets+n) {
		t.Fatalf("Reads: %d, %d, ahead of a Get %d, %d", morePages, moreBuckets, pages, buckets)
	}
	pages, buckets = morePages, moreBuckets
	b := w.window(k)
	in, f := w.a.Window(b)
	if l, e := w.g.Window(b); !sameRecords(l, in) || e != f {
		t.Fatalf("Window(%v): %v, %d, want %v, %d", b, l, e, in, f)
	}
	s, meet := w.g.State(), 0
	for _, x := range regions(t, w.c, s) {
		if _, met := key.Meet(x, b); met {
			meet++
		}
	}
	least, most := 1, directoryOf(s)
	if f != api.OK {
		least, most, meet = 0, 0, 0
	}
	if p, n := w.g.Reads(); p < pages+least || p > pages+most || n != buckets+meet {
		t.Fatalf("Reads: %d, %d, ahead of Window(%v) %d, %d, %d buckets meet it", p, n, b, pages, buckets, meet)
	}
}

// window is a box with a point at one of its ends, seldom one that may not be.
func (w *walk) window(k api.Key) api.Box {
	b := api.Box{Low: slices.Clone(k), High: w.point()}
	for at := range min(len(b.Low), len(b.High)) {
		if b.Low[at] > b.High[at] && w.r.Intn(50) > 0 {
			b.Low[at], b.High[at] = b.High[at], b.Low[at]
		}
	}
	return b
}

// points tells points of one kind: far from one another, near one another, in some heaps, of few numbers.
func points(r *rand.Rand, dim int, kind int) func() api.Key {
	heaps := make([]uint32, 24)
	for i := range heaps {
		heaps[i] = r.Uint32()
	}
	return func() api.Key {
		k := make(api.Key, dim)
		if r.Intn(60) == 0 {
			k = make(api.Key, r.Intn(8))
		}
		heap := r.Intn(4)
		for at := range k {
			switch kind {
			case 0:
				k[at] = r.Uint32()
			case 1:
				k[at] = 1000 + uint32(r.Intn(30))
			case 2:
				k[at] = heaps[(6*heap+at)%24] + uint32(r.Intn(9))
			default:
				k[at] = []uint32{0, 1, 2, 1 << 31, 1<<31 - 1, most - 1, most}[r.Intn(7)]
			}
		}
		return k
	}
}

// run is a walk in phases, in which ever more or less is put; behind it all is deleted.
func (w *walk) run(t *testing.T, phases ...int) {
	t.Helper()
	for phase, puts := range phases {
		w.puts = puts
		for range 50 {
			w.step(t)
		}
		s := w.g.State()
		holds(t, w.g, w.c, s)
		holds(t, w.again, w.c, s)
		if phase%2 == 0 {
			w.again = of(t, w.c, s)
		}
		if l, _ := w.g.Window(key.Whole(w.c.Dim)); !sameRecords(l, w.a.All()) {
			t.Fatalf("%v, want %v", l, w.a.All())
		}
	}
	for _, record := range w.a.All() {
		w.del(t, w.g.State(), record.Key)
	}
	holds(t, w.g, w.c, blank(w.c.Dim))
}

// P15.2 to P15.5, R6: it answers as an atlas does; its State may be, and makes the same grid.
func TestLongRowsOfCalls(t *testing.T) {
	full := [][]int{{60}, {60, 60}, {15, 16, 16}, {8, 8, 8, 7}, {5, 5, 5, 5, 5}, {4, 4, 4, 4, 4, 3}}
	told := [10]int{}
	for seed := range int64(96) {
		r := rand.New(rand.NewSource(seed))
		dim, kind := 1+int(seed)%6, int(seed)/6%4
		c := conf(dim, []int{2, 3, 5, 16}[r.Intn(4)], []int{5, 8, 20, 60, 999, 999}[r.Intn(6)])
		start, phases := blank(dim), []int{9, 5, 2, 8, 1}
		if seed%48 > 23 {
			c.Cap, c.Pages, start, phases = 2, 999, wide(full[dim-1]...), []int{10, 10, 2, 5}
		}
		a, _ := atlas.New(dim)
		w := &walk{c: c, r: r, g: of(t, c, start), again: of(t, c, start), a: a, data: []int{0, 3, 41}[r.Intn(3)], point: points(r, dim, kind)}
		w.run(t, phases...)
		for e, n := range w.errors {
			told[e] += n
		}
	}
	for _, e := range []api.Errno{api.OK, api.BadRequest, api.DiskFull, api.DirectoryLimit} {
		if told[e] < 50 {
			t.Errorf("a Put told %d only %d times", e, told[e])
		}
	}
}

// P15.3: behind a Delete that leaves no record the State is New's, whatever it was; Reads go on.
func TestDeleteOfTheLastRecord(t *testing.T) {
	for _, dim := range []int{1, 2, 6} {
		sizes := slices.Repeat([]int{3}, dim)
		s := wide(sizes...)
		k := slices.Repeat(api.Key{7}, dim)
		s.Buckets[0] = []api.Record{{Key: k}}
		s.Turn = 99
		c := conf(dim, 2, 99)
		g := of(t, c, s)
		g.Get(k)
		del(t, g, k)
		holds(t, g, c, blank(dim))
		if p, b := g.Reads(); p != 1 || b != 1 {
			t.Errorf("Reads: %d, %d", p, b)
		}
		if e := g.Delete(k); e != api.NotFound {
			t.Errorf("Delete: %d", e)
		}
		put(t, g, api.Record{Key: k})
	}
	c := conf(1, 2, 99)
	g := of(t, c, row(20))
	for i := range uint32(21) {
		if s := g.State(); same(s, blank(1)) {
			t.Errorf("New's State, with %d records", 21-i)
		}
		del(t, g, api.Key{10 * i})
	}
	holds(t, g, c, blank(1))
	// a Delete that finds nothing leaves a state without records as it is
	s := wide(4)
	g = of(t, c, s)
	if e := g.Delete(api.Key{1}); e != api.NotFound {
		t.Errorf("Delete: %d", e)
	}
	holds(t, g, c, s)
}

// P15.4: by hand.
func TestReads(t *testing.T) {
	s := wide(20, 30)
	s.Cells = nil
	for p := range 600 {
		s.Cells = append(s.Cells, min(p/30/10, 1)) // those with less than 10 in the first coordinate, and the others
	}
	s.Buckets = [][]api.Record{{rec("a", 3, 3)}, nil}
	g := of(t, conf(2, 2, 99), s)
	pages, buckets := 0, 0
	reads := func(what string, leastPages int, mostPages int, morebuckets int) {
		t.Helper()
		p, b := g.Reads()
		if p < pages+leastPages || p > pages+mostPages || b != buckets+morebuckets {
			t.Errorf("%s: Reads %d, %d, ahead of it %d, %d", what, p, b, pages, buckets)
		}
		pages, buckets = p, b
	}
	g.Get(api.Key{3, 3})
	reads("Get", 1, 1, 1)
	g.Get(api.Key{900, 900})
	reads("Get of nothing", 1, 1, 1)
	for _, k := range wrongPoints(2) {
		g.Get(k)
		reads("Get of what may not be", 0, 0, 0)
	}
	g.Window(key.Whole(2))
	reads("Window of all", 6, 6, 2)
	g.Window(api.Box{Low: api.Key{0, 0}, High: api.Key{0, 0}})
	reads("Window of one cell", 1, 1, 1)
	g.Window(api.Box{Low: api.Key{19, 29}, High: api.Key{most, most}})
	reads("Window of the last cell", 1, 1, 1)
	g.Window(api.Box{Low: api.Key{9, 5}, High: api.Key{10, 5}})
	reads("Window of two cells", 1, 2, 2)
	g.Window(api.Box{Low: api.Key{9, 5}, High: api.Key{9, most}})
	reads("Window of a row of cells", 1, 6, 1)
	for _, b := range wrongBoxes(2) {
		g.Window(b)
		reads("Window that may not be", 0, 0, 0)
	}
	put(t, g, rec("b", 4, 4), rec("c", 5, 5))
	g.Put(rec("", 1))
	del(t, g, api.Key{4, 4})
	g.Delete(api.Key{4, 4})
	g.State()
	g.Pages()
	g.Copy().Get(api.Key{3, 3})
	reads("all others", 0, 0, 0)
}

// wrongPoints are points that may not be, of so many coordinates.
func wrongPoints(dim int) []api.Key {
	out := []api.Key{nil, {}, make(api.Key, dim+1), make(api.Key, 7)}
	return append(out, make(api.Key, dim-1))
}

func wrongBoxes(dim int) []api.Box {
	out := []api.Box{{}, {Low: make(api.Key, dim)}, {High: make(api.Key, dim)}}
	for _, k := range wrongPoints(dim) {
		out = append(out, api.Box{Low: k, High: k}, api.Box{Low: k, High: make(api.Key, dim)}, api.Box{Low: make(api.Key, dim), High: k})
	}
	for at := range dim {
		b := key.Whole(dim)
		b.Low[at], b.High[at] = 8, 7
		out = append(out, b)
	}
	return out
}

// P15.2, P15.3, R3: what may not be.
func TestRefusals(t *testing.T) {
	for dim := 1; dim <= 6; dim++ {
		g := create(t, conf(dim, 2, 99))
		put(t, g, api.Record{Key: make(api.Key, dim), Data: "x"})
		before := g.State()
		for _, k := range wrongPoints(dim) {
			refusesPut(t, g, api.Record{Key: k}, api.BadRequest)
			if e := g.Delete(k); e != api.BadRequest {
				t.Errorf("Delete(%v): %d", k, e)
			}
			if s, e := g.Get(k); s != "" || e != api.BadRequest {
				t.Errorf("Get(%v): %q, %d", k, s, e)
			}
		}
		refusesPut(t, g, api.Record{Key: make(api.Key, dim), Data: strings.Repeat("x", 41)}, api.BadRequest)
		for _, b := range wrongBoxes(dim) {
			if l, e := g.Window(b); len(l) != 0 || e != api.BadRequest {
				t.Errorf("Window(%v): %v, %d", b, l, e)
			}
		}
		other := slices.Repeat(api.Key{1}, dim)
		if s, e := g.Get(other); s != "" || e != api.NotFound {
			t.Errorf("Get(%v): %q, %d", other, s, e)
		}
		if e := g.Delete(other); e != api.NotFound {
			t.Errorf("Delete(%v): %d", other, e)
		}
		if s := g.State(); !same(s, before) {
			t.Errorf("%v, want %v", s, before)
		}
	}
}

// R1, P15.1: methods of nil, and of a grid that was not made.
func TestNil(t *testing.T) {
	for _, g := range []*grid.Grid{nil, {}, {Config: conf(1, 2, 9)}} {
		for dim := range 7 {
			if e := g.Put(api.Record{Key: make(api.Key, dim)}); e != api.BadRequest {
				t.Errorf("Put: %d", e)
			}
			if e := g.Delete(make(api.Key, dim)); e != api.BadRequest {
				t.Errorf("Delete: %d", e)
			}
			if s, e := g.Get(make(api.Key, dim)); s != "" || e != api.BadRequest {
				t.Errorf("Get: %q, %d", s, e)
			}
			if l, e := g.Window(key.Whole(dim)); len(l) != 0 || e != api.BadRequest {
				t.Errorf("Window: %v, %d", l, e)
			}
		}
		if s := g.State(); !same(s, grid.State{}) || g.Pages() != 0 || g.Copy() != nil {
			t.Errorf("%v, %d, %v", s, g.Pages(), g.Copy())
		}
		if p, b := g.Reads(); p != 0 || b != 0 {
			t.Errorf("Reads: %d, %d", p, b)
		}
	}
}

// P15.1: a copy is like it, and of its own.
func TestCopy(t *testing.T) {
	c := conf(2, 2, 50)
	g := of(t, c, quarters())
	g.Get(api.Key{0, 0})
	g.Window(key.Whole(2))
	pages, buckets := g.Reads()
	before := g.State()
	other := g.Copy()
	holds(t, other, c, before)
	if p, b := other.Reads(); p != pages || b != buckets {
		t.Errorf("Reads: %d, %d, want %d, %d", p, b, pages, buckets)
	}
	put(t, other, rec("other", 0, 0), rec("", 1, 1), rec("", 2, 2), rec("", 11, 1), rec("", 12, 0))
	other.Get(api.Key{0, 0})
	holds(t, g, c, before)
	after := other.State()
	del(t, g, api.Key{0, 0}, api.Key{10, 19})
	put(t, g, rec("this", 9, most))
	holds(t, other, c, after)
	del(t, other.Copy(), api.Key{0, 0}, api.Key{1, 1}, api.Key{2, 2}, api.Key{9, most})
	holds(t, other, c, after)
	if p, b := g.Reads(); p != pages || b != buckets {
		t.Errorf("Reads: %d, %d, want %d, %d", p, b, pages, buckets)
	}
}

// apart expects that records share no memory with others, nor with one another; then it spoils them.
func apart(t *testing.T, l []api.Record, given []api.Record) {
	t.Helper()
	want := copied(l)
	for i, r := range l {
		for _, x := range given {
			at, from := uintptr(unsafe.Pointer(unsafe.StringData(r.Data))), uintptr(unsafe.Pointer(unsafe.StringData(x.Data)))
			if r.Data != "" && at >= from && at < from+uintptr(len(x.Data)) {
				t.Errorf("the text %q is shared", r.Data)
			}
		}
		if !slices.Equal(r.Key, want[i].Key) {
			t.Errorf("two lists share their memory: %v, want %v", r.Key, want[i].Key)
		}
		for at := range r.Key[:cap(r.Key)] {
			r.Key[:cap(r.Key)][at] = 12345
		}
	}
	clear(l[:cap(l)])
}

// R5: what is handed in is not changed and not kept; what is told is new, its spare room too.
func TestNothingIsShared(t *testing.T) {
	c := conf(2, 4, 50)
	s := quarters()
	text := "all of a text"
	s.Buckets[1][0].Data = text[4:6]
	want := copiedState(s)
	g := of(t, c, s)
	given := slices.Concat(s.Buckets...)
	clear(s.Cells)
	for _, l := range s.Buckets {
		apart(t, l, nil)
	}
	holds(t, g, c, want)
	for range 2 {
		told := g.State()
		if !same(told, want) {
			t.Fatalf("State: %v, want %v", told, want)
		}
		for _, l := range told.Buckets {
			apart(t, l, append(given, rec(text)))
		}
		clear(told.Cells[:cap(told.Cells)])
		clear(told.Buckets[:cap(told.Buckets)])
		b := key.Whole(2)
		l, _ := g.Window(b)
		if len(l) != 3 {
			t.Fatalf("Window: %v", l)
		}
		apart(t, l, append(given, rec(text)))
		if !slices.Equal(b.Low, key.Whole(2).Low) || !slices.Equal(b.High, key.Whole(2).High) {
			t.Errorf("Window has changed its box: %v", b)
		}
		holds(t, g, c, want)
	}
	for i := range uint32(20) {
		r := rec(text[:3], i, 40-i)
		put(t, g, r)
		if !slices.Equal(r.Key, api.Key{i, 40 - i}) {
			t.Errorf("Put has changed its record: %v", r)
		}
		apart(t, []api.Record{r}, nil)
		l, _ := g.Window(api.Box{Low: api.Key{i, 40 - i}, High: api.Key{i, 40 - i}})
		if len(l) != 1 || l[0].Data != "all" {
			t.Errorf("Window: %v", l)
		}
		apart(t, l, []api.Record{rec(text)})
	}
	for i := range uint32(20) {
		k := api.Key{i, 40 - i}
		del(t, g, k)
		if !slices.Equal(k, api.Key{i, 40 - i}) {
			t.Errorf("Delete has changed its point: %v", k)
		}
	}
	if l, _ := g.Window(key.Whole(2)); len(l) != 3 {
		t.Errorf("Window: %v", l)
	}
}
