package region_test

import (
	"math"
	"math/rand"
	"slices"
	"testing"

	"cadastre/api"
	"cadastre/key"
	"cadastre/part"
	"cadastre/region"
	"cadastre/slab"
)

const most = math.MaxUint32

func create(t *testing.T, sizes []int, cells []int) *slab.Slab {
	t.Helper()
	s, e := slab.Of(sizes, cells)
	if e != api.OK {
		t.Fatalf("slab.Of(%v, %v): %d", sizes, cells, e)
	}
	return s
}

// expects asks Of, and holds its answer against what is wanted.
func expects(t *testing.T, s *slab.Slab, n int, wantLow []int, wantHigh []int, want bool) {
	t.Helper()
	low, high, ok := region.Of(s, n)
	if ok != want || !slices.Equal(low, wantLow) || !slices.Equal(high, wantHigh) {
		t.Errorf("Of %d in %v, %v: %v, %v, %t, want %v, %v, %t", n, s.Sizes(), s.Cells(), low, high, ok, wantLow, wantHigh, want)
	}
}

// P14.1: by hand.
func TestOfByHand(t *testing.T) {
	for _, x := range []struct {
		sizes, cells []int
		n            int
		low, high    []int
		ok           bool
	}{
		{[]int{1}, []int{7}, 7, []int{0}, []int{0}, true}, {[]int{1}, []int{7}, 0, nil, nil, false}, {[]int{1, 1, 1}, []int{-7}, -7, []int{0, 0, 0}, []int{0, 0, 0}, true},
		{[]int{5}, []int{1, 1, 2, 1, 3}, 1, nil, nil, false}, {[]int{5}, []int{1, 1, 2, 1, 3}, 2, []int{2}, []int{2}, true}, {[]int{5}, []int{1, 1, 2, 1, 3}, 3, []int{4}, []int{4}, true},
		{[]int{5}, []int{1, 1, 2, 2, 2}, 1, []int{0}, []int{1}, true}, {[]int{5}, []int{1, 1, 2, 2, 2}, 2, []int{2}, []int{4}, true}, {[]int{5}, []int{1, 1, 2, 2, 2}, 3, nil, nil, false},
		{[]int{2, 2}, []int{4, 4, 4, 4}, 4, []int{0, 0}, []int{1, 1}, true}, {[]int{2, 2}, []int{4, 4, 5, 5}, 4, []int{0, 0}, []int{0, 1}, true}, {[]int{2, 2}, []int{4, 5, 4, 5}, 5, []int{0, 1}, []int{1, 1}, true},
		{[]int{2, 2}, []int{4, 5, 5, 4}, 4, nil, nil, false}, {[]int{2, 2}, []int{4, 5, 5, 4}, 5, nil, nil, false}, // at two corners
		{[]int{2, 2}, []int{4, 5, 5, 5}, 4, []int{0, 0}, []int{0, 0}, true}, {[]int{2, 2}, []int{4, 5, 5, 5}, 5, nil, nil, false}, // round a corner
		{[]int{2, 2}, []int{5, 5, 5, 4}, 5, nil, nil, false}, {[]int{2, 2}, []int{5, 5, 5, 4}, 4, []int{1, 1}, []int{1, 1}, true},
		{[]int{3, 3}, []int{1, 1, 1, 1, 2, 1, 1, 1, 1}, 1, nil, nil, false}, {[]int{3, 3}, []int{1, 1, 1, 1, 2, 1, 1, 1, 1}, 2, []int{1, 1}, []int{1, 1}, true}, // with a hole
		{[]int{2, 3}, []int{1, 2, 2, 1, 2, 2}, 2, []int{0, 1}, []int{1, 2}, true}, {[]int{2, 3}, []int{1, 2, 2, 2, 2, 1}, 2, nil, nil, false}, // as many as a range has, one behind the other
		{[]int{2, 4}, []int{1, 2, 2, 1, 2, 1, 1, 2}, 2, nil, nil, false}, {[]int{2, 2, 2}, []int{1, 2, 1, 2, 1, 2, 1, 2}, 2, []int{0, 0, 1}, []int{1, 1, 1}, true},
		{[]int{2, 2, 2}, []int{1, 1, 1, 1, 1, 1, 1, 1}, 1, []int{0, 0, 0}, []int{1, 1, 1}, true}, {[]int{2, 2, 2}, []int{1, 1, 1, 1, 1, 1, 1, 0}, 1, nil, nil, false},
	} {
		expects(t, create(t, x.sizes, x.cells), x.n, x.low, x.high, x.ok)
	}
}

// P14.1, P14.2, R1: of nil, and of a slab that has no cells, there is nothing.
func TestOfNothing(t *testing.T) {
	for _, s := range []*slab.Slab{nil, new(slab.Slab)} {
		for _, n := range []int{0, 1, -1, math.MinInt, math.MaxInt} {
			expects(t, s, n, nil, nil, false)
		}
		if l, ok := region.All(s); len(l) != 0 || ok {
			t.Errorf("All of nothing: %v, %t", l, ok)
		}
	}
}

// cellsOf are all cells of such sizes, in their order.
func cellsOf(sizes []int) [][]int {
	out := [][]int{nil}
	for _, size := range sizes {
		var longer [][]int
		for _, c := range out {
			for i := range size {
				longer = append(longer, append(slices.Clone(c), i))
			}
		}
		out = longer
	}
	return out
}

// found says it word by word as the document does.
func found(sizes []int, cells []int, n int) ([]int, []int, bool) {
	var low, high []int
	all := cellsOf(sizes)
	for p, cell := range all {
		switch {
		case cells[p] != n:
		case low == nil:
			low, high = slices.Clone(cell), slices.Clone(cell)
		default:
			for at, i := range cell {
				low[at], high[at] = min(low[at], i), max(high[at], i)
			}
		}
	}
	if low == nil {
		return nil, nil, false
	}
	for p, cell := range all {
		in := true
		for at, i := range cell {
			in = in && low[at] <= i && i <= high[at]
		}
		if in && cells[p] != n {
			return nil, nil, false
		}
	}
	return low, high, true
}

// some are sizes of not many cells, and contents, of which most stand in ranges.
func some(r *rand.Rand) ([]int, []int) {
	sizes := make([]int, 1+r.Intn(6))
	n := 1
	for at := range sizes {
		sizes[at] = 1 + r.Intn(5)
		for n*sizes[at] > 200 {
			sizes[at]--
		}
		n *= sizes[at]
	}
	s, _ := slab.Of(sizes, make([]int, n))
	for range r.Intn(6) {
		low, high := make([]int, len(sizes)), make([]int, len(sizes))
		for at, size := range sizes {
			low[at] = r.Intn(size)
			high[at] = low[at] + r.Intn(size-low[at])
		}
		s.Fill(low, high, r.Intn(7)-3)
	}
	return sizes, s.Cells()
}

// P14.1, P14.2: told beside what says it word by word.
func TestOfAndAll(t *testing.T) {
	r := rand.New(rand.NewSource(1))
	for range 4000 {
		sizes, cells := some(r)
		s := create(t, sizes, cells)
		each := true
		for n := -4; n <= 4; n++ {
			low, high, ok := found(sizes, cells, n)
			expects(t, s, n, low, high, ok)
			each = each && (ok || !slices.Contains(cells, n))
		}
		want := slices.Compact(slices.Sorted(slices.Values(cells)))
		if l, ok := region.All(s); !slices.Equal(l, want) || ok != each {
			t.Fatalf("All of %v, %v: %v, %t, want %v, %t", sizes, cells, l, ok, want, each)
		}
		if !slices.Equal(s.Sizes(), sizes) || !slices.Equal(s.Cells(), cells) {
			t.Fatalf("the slab has changed: %v, %v, want %v, %v", s.Sizes(), s.Cells(), sizes, cells)
		}
	}
}

// P14.1: each range that there may be is told, and none any more when one of its cells has another content, or one beside it has the same.
func TestOfEachRange(t *testing.T) {
	sizes := []int{2, 3, 3}
	for _, low := range cellsOf(sizes) {
		for _, high := range cellsOf(sizes) {
			s := create(t, sizes, make([]int, 18))
			if s.Fill(low, high, 5) != api.OK {
				continue
			}
			expects(t, s, 5, low, high, true)
			for _, cell := range cellsOf(sizes) {
				old, _ := s.Get(cell)
				s.Fill(cell, cell, 5-old)
				wantLow, wantHigh, want := found(sizes, s.Cells(), 5)
				expects(t, s, 5, wantLow, wantHigh, want)
				s.Fill(cell, cell, old)
			}
		}
	}
}

// P14.1, P14.2: directories of 4096 cells, with one content, two, and each another one.
func TestOfManyCells(t *testing.T) {
	for _, sizes := range [][]int{{4096}, {64, 64}, {2, 2048}, {16, 16, 16}, {4, 4, 4, 4, 4, 4}, {1, 4096, 1}} {
		last := slices.Clone(sizes)
		for at := range last {
			last[at]--
		}
		first := make([]int, len(sizes))
		s := create(t, sizes, slices.Repeat([]int{3}, 4096))
		expects(t, s, 3, first, last, true)
		if l, ok := region.All(s); !slices.Equal(l, []int{3}) || !ok {
			t.Errorf("All of %v: %v, %t", sizes, l, ok)
		}
		s.Fill(last, last, 2)
		expects(t, s, 2, last, last, true)
		if l, ok := region.All(s); !slices.Equal(l, []int{2, 3}) || ok != (len(slices.DeleteFunc(slices.Clone(sizes), func(n int) bool { return n == 1 })) == 1) {
			t.Errorf("All of %v: %v, %t", sizes, l, ok)
		}
		var cells, rising []int
		for n := range 4096 {
			cells, rising = append(cells, 5000-n), append(rising, 905+n)
		}
		s = create(t, sizes, cells)
		expects(t, s, 5000, first, first, true)
		expects(t, s, 905, last, last, true)
		expects(t, s, 904, nil, nil, false)
		if l, ok := region.All(s); !slices.Equal(l, rising) || !ok {
			t.Errorf("All of %v: %v, %t", sizes, l, ok)
		}
	}
}

// P14.2: by hand; what stands in no range is told, too.
func TestAllByHand(t *testing.T) {
	for _, x := range []struct {
		sizes, cells []int
		want         []int
		ok           bool
	}{
		{[]int{1}, []int{0}, []int{0}, true}, {[]int{1, 1, 1, 1, 1, 1}, []int{math.MinInt}, []int{math.MinInt}, true}, {[]int{3}, []int{9, -5, 2}, []int{-5, 2, 9}, true},
		{[]int{3}, []int{9, 2, 9}, []int{2, 9}, false}, {[]int{3}, []int{9, 9, 2}, []int{2, 9}, true}, {[]int{5}, []int{1, 2, 3, 2, 4}, []int{1, 2, 3, 4}, false},
		{[]int{2, 2}, []int{1, 1, 1, 1}, []int{1}, true}, {[]int{2, 2}, []int{2, 1, 2, 1}, []int{1, 2}, true}, {[]int{2, 2}, []int{2, 1, 1, 2}, []int{1, 2}, false},
		{[]int{2, 2}, []int{0, 1, 1, 1}, []int{0, 1}, false}, {[]int{2, 2}, []int{1, 1, 1, 2}, []int{1, 2}, false}, {[]int{2, 3}, []int{1, 1, 2, 3, 3, 2}, []int{1, 2, 3}, true},
		{[]int{4}, []int{math.MaxInt, 0, math.MinInt, -1}, []int{math.MinInt, -1, 0, math.MaxInt}, true},
	} {
		if l, ok := region.All(create(t, x.sizes, x.cells)); !slices.Equal(l, x.want) || ok != x.ok {
			t.Errorf("All of %v, %v: %v, %t, want %v, %t", x.sizes, x.cells, l, ok, x.want, x.ok)
		}
	}
}

// P14.1: a range that grows, of which each half stands in one again.
func TestOfBesideGrow(t *testing.T) {
	s, _ := slab.New(3, 0)
	for n := range 30 {
		at := n % 3
		low, high, ok := region.Of(s, n/2)
		if !ok {
			t.Fatalf("Of %d: not there", n/2)
		}
		if low[at] == high[at] {
			if e := s.Grow(at, low[at]); e != api.OK {
				break
			}
			high[at]++
		}
		low[at] = high[at]
		s.Fill(low, high, n+1)
		if l, ok := region.All(s); !ok || len(l) != n+2 {
			t.Fatalf("All: %v, %t", l, ok)
		}
		expects(t, s, n+1, low, high, true)
	}
}

func box(low api.Key, high api.Key) api.Box { return api.Box{Low: low, High: high} }

func copied(b api.Box) api.Box { return box(slices.Clone(b.Low), slices.Clone(b.High)) }

func same(a api.Box, b api.Box) bool {
	return slices.Equal(a.Low, b.Low) && slices.Equal(a.High, b.High)
}

// joins expects that two boxes are joined, either way round.
func joins(t *testing.T, a api.Box, b api.Box, want api.Box, wantAt int) {
	t.Helper()
	for _, x := range [][2]api.Box{{a, b}, {b, a}} {
		if m, at, ok := region.Joined(x[0], x[1]); !ok || at != wantAt || !same(m, want) {
			t.Errorf("Joined(%v, %v): %v, %d, %t, want %v, %d", x[0], x[1], m, at, ok, want, wantAt)
		}
	}
}

// refuses expects that they are not, either way round.
func refuses(t *testing.T, a api.Box, b api.Box) {
	t.Helper()
	for _, x := range [][2]api.Box{{a, b}, {b, a}} {
		if m, at, ok := region.Joined(x[0], x[1]); ok || at != 0 || len(m.Low)+len(m.High) != 0 {
			t.Errorf("Joined(%v, %v): %v, %d, %t", x[0], x[1], m, at, ok)
		}
	}
}

// line is a box of one coordinate.
func line(low uint32, high uint32) api.Box { return box(api.Key{low}, api.Key{high}) }

// P14.3: by hand.
func TestJoinedByHand(t *testing.T) {
	joins(t, line(0, 4), line(5, 9), line(0, 9), 0) // the document's example
	joins(t, line(0, 4), line(5, 8), line(0, 8), 0)
	joins(t, line(0, 0), line(1, 1), line(0, 1), 0)
	joins(t, line(6, 6), line(7, 7), line(6, 7), 0)
	joins(t, line(6, 7), line(8, 8), line(6, 8), 0)
	joins(t, line(most-1, most-1), line(most, most), line(most-1, most), 0)
	joins(t, line(most-2, most-1), line(most, most), line(most-2, most), 0)
	joins(t, line(0, 1<<31-1), line(1<<31, most), key.Whole(1), 0)
	joins(t, line(1, 1<<31), line(1<<31+1, most), line(1, most), 0)
	joins(t, line(1<<31-1, 1<<31-1), line(1<<31, 1<<31), line(1<<31-1, 1<<31), 0)
	joins(t, box(api.Key{0, 3}, api.Key{9, 3}), box(api.Key{0, 4}, api.Key{9, 4}), box(api.Key{0, 3}, api.Key{9, 4}), 1)
	joins(t, box(api.Key{7, 0, 7}, api.Key{7, 1, 7}), box(api.Key{7, 2, 7}, api.Key{7, 3, 7}), box(api.Key{7, 0, 7}, api.Key{7, 3, 7}), 1)
	joins(t, box(api.Key{0, 0, 0, 0, 0, 1 << 31}, slices.Repeat(api.Key{most}, 6)), box(make(api.Key, 6), api.Key{most, most, most, most, most, 1<<31 - 1}), key.Whole(6), 5)
}

// P14.3, R3: boxes that touch but are not halves of one, that are apart, one in the other, or one and the same.
func TestJoinedRefusesByHand(t *testing.T) {
	for _, x := range [][2]api.Box{
		{line(0, 3), line(4, 9)}, {line(0, 5), line(6, 9)}, {line(0, 3), line(4, 8)}, {line(6, 6), line(7, 8)}, {line(0, 0), line(1, most)}, {line(0, most-1), line(most, most)}, {line(1, 1<<31-1), line(1<<31, most)},
		{line(0, 1<<31), line(1<<31+1, most)}, {line(most-2, most-2), line(most-1, most)},
		{line(0, 4), line(6, 9)}, {line(0, 0), line(2, 2)}, {line(0, 0), line(most, most)}, {line(0, 1), line(8, 9)}, {line(0, 4), line(6, 10)},
		{line(0, 5), line(5, 9)}, {line(0, 9), line(5, 9)}, {line(0, 9), line(0, 4)}, {line(0, 9), line(2, 5)}, {line(0, 9), line(5, 14)},
		{line(0, 9), line(0, 9)}, {line(5, 5), line(5, 5)}, {key.Whole(1), key.Whole(1)}, {key.Whole(6), key.Whole(6)},
		{box(api.Key{0, 0}, api.Key{4, 9}), box(api.Key{5, 0}, api.Key{9, 8})}, {box(api.Key{0, 0}, api.Key{4, 9}), box(api.Key{5, 1}, api.Key{9, 9})}, // halves of one at a coordinate, but not as wide at the other one
		{box(api.Key{0, 0}, api.Key{4, 4}), box(api.Key{5, 5}, api.Key{9, 9})}, {box(api.Key{0, 5}, api.Key{4, 9}), box(api.Key{5, 0}, api.Key{9, 4})}, // at two coordinates
		{box(api.Key{7, 7}, api.Key{7, 7}), box(api.Key{8, 8}, api.Key{8, 8})}, {box(api.Key{0, 0}, api.Key{9, 9}), box(api.Key{0, 0}, api.Key{4, 4})},
	} {
		refuses(t, x[0], x[1])
	}
}

// wrongBoxes are some that may not be.
func wrongBoxes() []api.Box {
	out := []api.Box{{}, {Low: api.Key{}, High: api.Key{}}, {Low: api.Key{1}}, {High: api.Key{1}}, line(9, 0), line(most, 0), line(8, 7)}
	for low := range 9 {
		for high := range 9 {
			if low != high || low == 0 || low > 6 {
				out = append(out, box(make(api.Key, low), slices.Repeat(api.Key{9}, high)))
			}
		}
	}
	for dim := 1; dim <= 6; dim++ {
		for at := range dim {
			b := box(make(api.Key, dim), slices.Repeat(api.Key{9}, dim))
			b.Low[at] = 10
			out = append(out, b)
		}
	}
	return out
}

// P14.3, R1, R3: boxes that may not be, and of other numbers of coordinates.
func TestJoinedRefuses(t *testing.T) {
	right := []api.Box{line(0, 4), line(5, 9), key.Whole(1), key.Whole(2), key.Whole(6), box(make(api.Key, 3), make(api.Key, 3))}
	for _, a := range wrongBoxes() {
		for _, b := range append(right, wrongBoxes()...) {
			refuses(t, a, b)
		}
	}
	for one := 1; one <= 6; one++ {
		for other := 1; other <= 6; other++ {
			lower, _, _ := part.Halves(key.Whole(one), 0)
			_, upper, _ := part.Halves(key.Whole(other), 0)
			if one != other {
				refuses(t, lower, upper)
			}
		}
	}
	// ends of halves, as many as they need be in all, but not of each
	refuses(t, box(api.Key{0, 0}, api.Key{4}), box(api.Key{5}, api.Key{9, 9}))
	refuses(t, box(api.Key{0}, api.Key{4, 9}), box(api.Key{5, 0}, api.Key{9}))
	refuses(t, box(api.Key{0}, api.Key{4, 9}), box(api.Key{5}, api.Key{9, 9}))
	// seven coordinates
	refuses(t, box(make(api.Key, 7), slices.Repeat(api.Key{0}, 7)), box(api.Key{1, 0, 0, 0, 0, 0, 0}, api.Key{1, 0, 0, 0, 0, 0, 0}))
}

// within are all boxes of numbers below n.
func within(dim int, n uint32) []api.Box {
	out := []api.Box{{}}
	for range dim {
		var longer []api.Box
		for _, b := range out {
			for low := range n {
				for high := low; high < n; high++ {
					longer = append(longer, box(append(slices.Clone(b.Low), low), append(slices.Clone(b.High), high)))
				}
			}
		}
		out = longer
	}
	return out
}

// P14.3, P14.4: of all boxes of few numbers, told beside all halves that there are; what is joined is all of the box, and its halves have nothing both.
func TestJoinedOfAll(t *testing.T) {
	for _, x := range []struct {
		dim int
		n   uint32
	}{{1, 10}, {2, 4}, {3, 3}} {
		type made struct {
			whole api.Box
			at    int
		}
		all := within(x.dim, x.n)
		name := func(a api.Box, b api.Box) [12]uint32 {
			var out [12]uint32
			copy(out[:], slices.Concat(a.Low, a.High, b.Low, b.High))
			return out
		}
		halves := map[[12]uint32]made{}
		for _, b := range all {
			for at := range x.dim {
				if lower, upper, ok := part.Halves(b, at); ok {
					halves[name(lower, upper)], halves[name(upper, lower)] = made{b, at}, made{b, at}
				}
			}
		}
		for _, a := range all {
			for _, b := range all {
				want, is := halves[name(a, b)]
				m, at, ok := region.Joined(a, b)
				if ok != is || at != want.at || !same(m, want.whole) {
					t.Fatalf("Joined(%v, %v): %v, %d, %t, want %v, %d, %t", a, b, m, at, ok, want.whole, want.at, is)
				}
				if ok {
					allOf(t, m, a, b, x.n)
				}
			}
		}
	}
}

// allOf expects that each point, of numbers below n, is in m, if it is in just one of a and b.
func allOf(t *testing.T, m api.Box, a api.Box, b api.Box, n uint32) {
	t.Helper()
	for _, p := range within(len(m.Low), n) {
		k := p.Low
		inA, inB := key.In(k, a), key.In(k, b)
		if inA && inB || key.In(k, m) != (inA || inB) {
			t.Fatalf("%v: in %v %t, in %v %t, in %v %t", k, m, key.In(k, m), a, inA, b, inB)
		}
	}
}

// wide is a box of any numbers, up to the greatest one.
func wide(r *rand.Rand, dim int) api.Box {
	var b api.Box
	for range dim {
		low, high := r.Uint32()>>r.Intn(33), r.Uint32()>>r.Intn(33)
		switch r.Intn(5) {
		case 0:
			high = most
		case 1:
			high = low
		case 2:
			low, high = most-low, most-high
		}
		b.Low, b.High = append(b.Low, min(low, high)), append(b.High, max(low, high))
	}
	return b
}

// P14.4: what is halved is joined, either way round; with one end moved by one it is not.
func TestHalvedAndJoined(t *testing.T) {
	r := rand.New(rand.NewSource(2))
	for range 3000 {
		b := wide(r, 1+r.Intn(6))
		for at := range b.Low {
			lower, upper, ok := part.Halves(b, at)
			if !ok {
				continue
			}
			joins(t, lower, upper, b, at)
			i := r.Intn(len(b.Low))
			end := []api.Key{lower.Low, lower.High, upper.Low, upper.High}[r.Intn(4)]
			end[i] += uint32(2*r.Intn(2)) - 1
			agrees(t, lower, upper)
		}
	}
}

// agrees expects of Joined what the least box that has both, halved at each coordinate, tells.
func agrees(t *testing.T, a api.Box, b api.Box) {
	t.Helper()
	m := copied(a)
	for at := range m.Low {
		m.Low[at], m.High[at] = min(m.Low[at], b.Low[at]), max(m.High[at], b.High[at])
	}
	for at := range m.Low {
		lower, upper, ok := part.Halves(m, at)
		if ok && (same(a, lower) && same(b, upper) || same(a, upper) && same(b, lower)) {
			joins(t, a, b, m, at)
			return
		}
	}
	refuses(t, a, b)
}

// P14.4: halved and joined many times over, all boxes are the first one again.
func TestHalvedAgainAndAgain(t *testing.T) {
	r := rand.New(rand.NewSource(3))
	for range 300 {
		dim := 1 + r.Intn(6)
		rows := []api.Box{key.Whole(dim)}
		var others []api.Box
		for range 40 {
			lower, upper, ok := part.Halves(rows[len(rows)-1], r.Intn(dim))
			if !ok {
				continue
			}
			if r.Intn(2) == 0 {
				lower, upper = upper, lower
			}
			rows, others = append(rows, lower), append(others, upper)
		}
		have := rows[len(rows)-1]
		for i := len(others) - 1; i >= 0; i-- {
			m, _, ok := region.Joined(have, others[i])
			if !ok || !same(m, rows[i]) {
				t.Fatalf("Joined(%v, %v): %v, %t, want %v", have, others[i], m, ok, rows[i])
			}
			have = m
		}
	}
}

// spoil writes into a list, and into its spare room.
func spoil[L ~[]E, E int | uint32](l L) {
	l = l[:cap(l)]
	for i := range l {
		l[i] = 77777
	}
}

// R5: the slab and the boxes are not changed; what is answered shares nothing with them, nor its lists with one another.
func TestListsAreNew(t *testing.T) {
	sizes, cells := []int{2, 2}, []int{4, 5, 4, 6}
	s := create(t, sizes, cells)
	for range 3 {
		for _, n := range []int{4, 5} {
			low, high, ok := region.Of(s, n)
			want, _, _ := found(sizes, cells, n)
			spoil(high)
			if !ok || !slices.Equal(low, want) {
				t.Fatalf("the lists of an answer share something: %v, want %v", low, want)
			}
			spoil(low)
		}
		l, _ := region.All(s)
		spoil(l)
		if !slices.Equal(s.Sizes(), sizes) || !slices.Equal(s.Cells(), cells) {
			t.Fatalf("the slab has changed: %v, %v", s.Sizes(), s.Cells())
		}
	}
	room := api.Key{0, 7, 4, 8, 5, 7, 9, 8, 1, 1}
	before := slices.Clone(room)
	a, b := box(room[0:2], room[2:4]), box(room[4:6], room[6:8])
	for _, x := range [][2]api.Box{{a, b}, {b, a}, {a, a}, {b, b}, {a, box(room[4:6], room[8:10])}} {
		m, _, ok := region.Joined(x[0], x[1])
		spoil(m.Low)
		if ok && !slices.Equal(m.High, api.Key{9, 8}) {
			t.Errorf("the ends of a box share something: %v", m)
		}
		spoil(m.High)
		if !slices.Equal(room, before) {
			t.Fatalf("what was handed in has changed: %v, want %v", room, before)
		}
	}
	five, six := api.Key{5}, api.Key{6} // both ends of a box may be one list
	joins(t, box(five, five), box(six, six), line(5, 6), 0)
	if five[0] != 5 || six[0] != 6 {
		t.Errorf("what was handed in has changed: %v, %v", five, six)
	}
}

// R6: the same again, it is the same.
func TestAgain(t *testing.T) {
	r := rand.New(rand.NewSource(4))
	for range 300 {
		sizes, cells := some(r)
		first, whole := region.All(create(t, sizes, cells))
		for range 3 {
			if l, ok := region.All(create(t, sizes, cells)); !slices.Equal(l, first) || ok != whole {
				t.Fatalf("All: %v, %t, and ahead of that %v, %t", l, ok, first, whole)
			}
			for _, n := range first {
				low, high, ok := found(sizes, cells, n)
				expects(t, create(t, sizes, cells), n, low, high, ok)
			}
		}
	}
}
