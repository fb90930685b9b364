package slab_test

import (
	"math"
	"math/rand"
	"slices"
	"testing"

	"cadastre/api"
	"cadastre/scale"
	"cadastre/slab"
)

var (
	wrongDims    = []int{math.MinInt, -6, -1, 0, 7, 8, 100, 1<<32 + 1, math.MaxInt} // numbers of dimensions that no slab has
	wrongPlaces  = []int{math.MinInt, -7, -1, 6, 7, 100, 1 << 32, math.MaxInt}      // of which no slab has a dimension
	wrongNumbers = []int{math.MinInt, -5000, -1, 4096, 4097, 1 << 32, math.MaxInt}  // which no cell has
	contents     = []int{0, 1, -1, 7, 999, math.MinInt, math.MaxInt}                // any number may be one
)

// plain is a cell with its content, told word by word as the document does.
type plain struct {
	cell []int
	n    int
}

// cellsOf are all cells of such sizes, in their order.
func cellsOf(sizes []int) [][]int {
	out := [][]int{nil}
	for _, size := range sizes {
		var longer [][]int
		for _, c := range out {
			for i := range size {
				longer = append(longer, append(slices.Clone(c), i))
			}
		}
		out = longer
	}
	return out
}

// row are contents that are not the same, so many.
func row(n int) []int {
	out := make([]int, n)
	for i := range out {
		out[i] = 100 + i
	}
	return out
}

func product(sizes []int) int {
	n := 1
	for _, size := range sizes {
		n *= size
	}
	return n
}

func of(t *testing.T, sizes []int, cells []int) *slab.Slab {
	t.Helper()
	s, e := slab.Of(sizes, cells)
	if s == nil || e != api.OK {
		t.Fatalf("Of(%v): %v, %d", sizes, s, e)
	}
	return s
}

// holds expects of a slab just these cells, by all that it tells.
func holds(t *testing.T, s *slab.Slab, sizes []int, cells []int) {
	t.Helper()
	if have := s.Sizes(); !slices.Equal(have, sizes) {
		t.Fatalf("Sizes: %v, want %v", have, sizes)
	}
	if have := s.Cells(); !slices.Equal(have, cells) {
		t.Fatalf("Cells of %v: %v, want %v", sizes, have, cells)
	}
	for p, cell := range cellsOf(sizes) {
		if have, e := s.Place(cell); have != p || e != api.OK {
			t.Fatalf("Place(%v) among %v: %d, %d, want %d", cell, sizes, have, e, p)
		}
		if have, e := s.Get(cell); have != cells[p] || e != api.OK {
			t.Fatalf("Get(%v) among %v: %d, %d, want %d", cell, sizes, have, e, cells[p])
		}
	}
}

// shapes are sizes that may be, of all numbers of dimensions, among them those whose product is 4096.
func shapes() [][]int {
	return [][]int{
		{1}, {2}, {7}, {1, 1}, {2, 2}, {2, 3}, {3, 2}, {1, 5}, {5, 1}, {1, 1, 1}, {2, 3, 4}, {4, 1, 3}, {1, 1, 1, 1}, {3, 1, 2, 2}, {2, 2, 2, 2, 2}, {1, 3, 1, 2, 1},
		{1, 1, 1, 1, 1, 1}, {2, 1, 3, 1, 2, 2}, {3, 2, 1, 2, 1, 3}, {4096}, {64, 64}, {2, 2048}, {4096, 1}, {16, 16, 16}, {8, 8, 8, 8}, {4, 4, 4, 4, 4, 4}, {1, 1, 1, 1, 1, 4096}, {4095}, {63, 65}, {241, 16},
	}
}

// small are shapes of few cells.
func small() [][]int {
	return slices.DeleteFunc(shapes(), func(sizes []int) bool { return product(sizes) > 100 })
}

// P13.1
func TestNew(t *testing.T) {
	for dim := 1; dim <= 6; dim++ {
		for _, n := range contents {
			s, e := slab.New(dim, n)
			if s == nil || e != api.OK {
				t.Fatalf("New(%d, %d): %v, %d", dim, n, s, e)
			}
			holds(t, s, slices.Repeat([]int{1}, dim), []int{n})
		}
	}
	for _, dim := range wrongDims {
		for _, n := range contents {
			if s, e := slab.New(dim, n); s != nil || e != api.BadRequest {
				t.Errorf("New(%d, %d): %v, %d", dim, n, s, e)
			}
		}
	}
}

// P13.1
func TestOf(t *testing.T) {
	for _, sizes := range shapes() {
		cells := row(product(sizes))
		holds(t, of(t, sizes, cells), sizes, cells)
	}
	holds(t, of(t, []int{7}, contents), []int{7}, contents)
	holds(t, of(t, []int{2, 2}, []int{5, 5, 5, 5}), []int{2, 2}, []int{5, 5, 5, 5})
}

// refusesOf expects of Of nothing, with any of these numbers of contents.
func refusesOf(t *testing.T, sizes []int, numbers ...int) {
	t.Helper()
	for _, n := range numbers {
		if s, e := slab.Of(sizes, row(n)); s != nil || e != api.BadRequest {
			t.Errorf("Of(%v) of %d contents: %v, %d", sizes, n, s, e)
		}
	}
	if s, e := slab.Of(sizes, nil); s != nil || e != api.BadRequest {
		t.Errorf("Of(%v) of nil: %v, %d", sizes, s, e)
	}
}

// P13.1: sizes that may not be.
func TestOfRefuses(t *testing.T) {
	for _, sizes := range [][]int{nil, {}, {1, 1, 1, 1, 1, 1, 1}, {2, 1, 1, 1, 1, 1, 1}, slices.Repeat([]int{1}, 100)} {
		refusesOf(t, sizes, 0, 1, 2, 4096)
	}
	for _, sizes := range [][]int{{4097}, {17, 241}, {241, 17}, {1, 4097}, {1, 17, 1, 241, 1, 1}, {64, 65}, {2, 2049}, {4096, 2}, {2, 4096}, {5, 4, 4, 4, 4, 4}, {4, 4, 4, 4, 4, 5}} {
		refusesOf(t, sizes, product(sizes), 4096, 4097, 1, 0)
	}
	for _, sizes := range [][]int{{0}, {-1}, {0, 5}, {5, 0}, {-1, -1}, {-2, -2}, {2, -1, -2}, {-64, -64}, {1, 1, 1, 1, 1, 0}, {4097, 0}, {math.MinInt}, {-1, math.MinInt}, {math.MinInt, math.MinInt}} {
		refusesOf(t, sizes, 0, 1, 4, 5, 4096)
	}
	// products that an int does not hold
	for _, sizes := range [][]int{{1 << 32, 1 << 32}, {1 << 62, 4}, {1<<32 + 1, 1<<32 - 1}, {math.MaxInt, math.MaxInt}, {math.MaxInt}, {1 << 63 / 3, 3, 2}, {2, math.MaxInt, 2}, {1 << 11, 1 << 11, 1 << 11, 1 << 11, 1 << 11, 1 << 9}} {
		refusesOf(t, sizes, 0, 1, 4, 4096)
	}
}

// P13.1: contents that are not as many as the cells.
func TestOfRefusesContents(t *testing.T) {
	for _, sizes := range shapes() {
		n := product(sizes)
		refusesOf(t, sizes, n-1, n+1, 2*n, 0)
	}
}

// refusesAll expects of a slab without dimensions that each call tells that.
func refusesAll(t *testing.T, s *slab.Slab) {
	t.Helper()
	for size := range 8 {
		l := make([]int, size)
		refusesCell(t, s, l)
		refusesRange(t, s, l, l)
	}
	refusesCell(t, s, nil)
	refusesRange(t, s, nil, nil)
	for _, at := range append([]int{0, 1, 5}, wrongPlaces...) {
		for _, i := range append([]int{0, 1}, wrongNumbers...) {
			if e := s.Grow(at, i); e != api.BadRequest {
				t.Errorf("Grow(%d, %d): %d", at, i, e)
			}
			if e := s.Shrink(at, i); e != api.BadRequest {
				t.Errorf("Shrink(%d, %d): %d", at, i, e)
			}
		}
	}
	if len(s.Sizes()) != 0 || len(s.Cells()) != 0 {
		t.Errorf("it has something: %v, %v", s.Sizes(), s.Cells())
	}
}

func refusesCell(t *testing.T, s *slab.Slab, cell []int) {
	t.Helper()
	if p, e := s.Place(cell); p != 0 || e != api.BadRequest {
		t.Errorf("Place(%v): %d, %d", cell, p, e)
	}
	if n, e := s.Get(cell); n != 0 || e != api.BadRequest {
		t.Errorf("Get(%v): %d, %d", cell, n, e)
	}
}

func refusesRange(t *testing.T, s *slab.Slab, low []int, high []int) {
	t.Helper()
	if e := s.Fill(low, high, 12345); e != api.BadRequest {
		t.Errorf("Fill(%v, %v): %d", low, high, e)
	}
	if l, e := s.Seen(low, high); len(l) != 0 || e != api.BadRequest {
		t.Errorf("Seen(%v, %v): %v, %d", low, high, l, e)
	}
}

// P13.1, R1
func TestNil(t *testing.T) {
	var s *slab.Slab
	refusesAll(t, s)
}

// R1: a slab that neither New nor Of made has no dimensions.
func TestZero(t *testing.T) { refusesAll(t, new(slab.Slab)) }

// P13.2: by hand.
func TestPlaceByHand(t *testing.T) {
	s := of(t, []int{2, 3}, []int{10, 11, 12, 20, 21, 22})
	for _, x := range []struct{ first, second, p, n int }{{0, 0, 0, 10}, {0, 1, 1, 11}, {0, 2, 2, 12}, {1, 0, 3, 20}, {1, 1, 4, 21}, {1, 2, 5, 22}} {
		cell := []int{x.first, x.second}
		if p, e := s.Place(cell); p != x.p || e != api.OK {
			t.Errorf("Place(%v): %d, %d, want %d", cell, p, e, x.p)
		}
		if n, e := s.Get(cell); n != x.n || e != api.OK {
			t.Errorf("Get(%v): %d, %d, want %d", cell, n, e, x.n)
		}
	}
}

// P13.2, R3: no cell: of another number of dimensions, or with one number that is wrong, wherever it stands.
func TestPlaceRefuses(t *testing.T) {
	for _, sizes := range small() {
		cells := row(product(sizes))
		s := of(t, sizes, cells)
		for size := range 9 {
			if size != len(sizes) {
				refusesCell(t, s, make([]int, size))
				refusesRange(t, s, make([]int, size), make([]int, size))
				refusesRange(t, s, make([]int, size), make([]int, len(sizes)))
				refusesRange(t, s, make([]int, len(sizes)), make([]int, size))
			}
		}
		refusesCell(t, s, nil)
		refusesRange(t, s, nil, nil)
		for at, size := range sizes {
			for _, i := range append([]int{size, size + 1, -size}, wrongNumbers...) {
				cell := make([]int, len(sizes))
				cell[at] = i
				refusesCell(t, s, cell)
				refusesRange(t, s, cell, cell)
				refusesRange(t, s, make([]int, len(sizes)), cell)
				refusesRange(t, s, cell, make([]int, len(sizes)))
			}
		}
		holds(t, s, sizes, cells)
	}
}

// P13.2, R3: both are cells, but a number of low is above that of high.
func TestRangesThatDoNotRise(t *testing.T) {
	sizes := []int{2, 3, 4}
	s := of(t, sizes, row(24))
	for _, low := range cellsOf(sizes) {
		for _, high := range cellsOf(sizes) {
			if low[0] > high[0] || low[1] > high[1] || low[2] > high[2] {
				refusesRange(t, s, low, high)
			}
		}
	}
	holds(t, s, sizes, row(24))
}

// P13.2: by hand.
func TestFillByHand(t *testing.T) {
	s := of(t, []int{2, 3}, []int{1, 2, 3, 4, 5, 6})
	for _, x := range []struct {
		low, high []int
		n         int
		seen      []int
		want      []int
	}{
		{[]int{0, 1}, []int{1, 2}, 9, []int{2, 3, 5, 6}, []int{1, 9, 9, 4, 9, 9}},
		{[]int{0, 0}, []int{1, 2}, 9, []int{1, 9, 4}, []int{9, 9, 9, 9, 9, 9}},
		{[]int{1, 1}, []int{1, 1}, 0, []int{9}, []int{9, 9, 9, 9, 0, 9}},
		{[]int{0, 0}, []int{0, 0}, -7, []int{9}, []int{-7, 9, 9, 9, 0, 9}},
		{[]int{1, 2}, []int{1, 2}, 3, []int{9}, []int{-7, 9, 9, 9, 0, 3}},
		{[]int{1, 0}, []int{1, 2}, 9, []int{9, 0, 3}, []int{-7, 9, 9, 9, 9, 9}},
		{[]int{0, 0}, []int{1, 0}, 5, []int{-7, 9}, []int{5, 9, 9, 5, 9, 9}},
		{[]int{0, 0}, []int{1, 2}, 5, []int{5, 9}, []int{5, 5, 5, 5, 5, 5}},
	} {
		if l, e := s.Seen(x.low, x.high); !slices.Equal(l, x.seen) || e != api.OK {
			t.Errorf("Seen(%v, %v): %v, %d, want %v", x.low, x.high, l, e, x.seen)
		}
		if e := s.Fill(x.low, x.high, x.n); e != api.OK {
			t.Errorf("Fill(%v, %v, %d): %d", x.low, x.high, x.n, e)
		}
		holds(t, s, []int{2, 3}, x.want)
	}
	seen := of(t, []int{6}, []int{3, 1, 3, -2, 1, 3})
	for _, x := range []struct {
		low, high int
		want      []int
	}{{0, 5, []int{3, 1, -2}}, {1, 5, []int{1, 3, -2}}, {2, 5, []int{3, -2, 1}}, {3, 5, []int{-2, 1, 3}}, {4, 5, []int{1, 3}}, {5, 5, []int{3}}, {0, 0, []int{3}}} {
		if l, e := seen.Seen([]int{x.low}, []int{x.high}); !slices.Equal(l, x.want) || e != api.OK {
			t.Errorf("Seen(%d, %d): %v, %d, want %v", x.low, x.high, l, e, x.want)
		}
	}
}

// within is whether each number of a cell is from low's to high's.
func within(cell []int, low []int, high []int) bool {
	for at, i := range cell {
		if i < low[at] || i > high[at] {
			return false
		}
	}
	return true
}

// stretch is some range of such sizes: one cell, all cells, or any.
func stretch(r *rand.Rand, sizes []int) ([]int, []int) {
	low, high := make([]int, len(sizes)), make([]int, len(sizes))
	kind := r.Intn(6)
	for at, size := range sizes {
		low[at], high[at] = r.Intn(size), r.Intn(size)
		switch {
		case kind == 0:
			high[at] = low[at]
		case kind == 1:
			low[at], high[at] = 0, size-1
		case low[at] > high[at]:
			low[at], high[at] = high[at], low[at]
		}
	}
	return low, high
}

// P13.2: told beside a plain list of all cells.
func TestFillAndSeen(t *testing.T) {
	r := rand.New(rand.NewSource(1))
	for _, sizes := range shapes() {
		all, cells := cellsOf(sizes), row(product(sizes))
		s := of(t, sizes, cells)
		for range 30 {
			low, high := stretch(r, sizes)
			var seen []int
			n := r.Intn(9)
			for p, cell := range all {
				if within(cell, low, high) {
					if !slices.Contains(seen, cells[p]) {
						seen = append(seen, cells[p])
					}
				}
			}
			if l, e := s.Seen(low, high); !slices.Equal(l, seen) || e != api.OK {
				t.Fatalf("Seen(%v, %v) of %v: %v, %d, want %v", low, high, cells, l, e, seen)
			}
			for p, cell := range all {
				if within(cell, low, high) {
					cells[p] = n
				}
			}
			if e := s.Fill(low, high, n); e != api.OK || !slices.Equal(s.Cells(), cells) {
				t.Fatalf("Fill(%v, %v, %d): %d, %v, want %v", low, high, n, e, s.Cells(), cells)
			}
		}
		holds(t, s, sizes, cells)
	}
}

// P13.3: by hand.
func TestGrowByHand(t *testing.T) {
	for _, x := range []struct {
		sizes, cells []int
		at, i        int
		want         []int
	}{
		{[]int{2, 2}, []int{1, 2, 3, 4}, 1, 0, []int{1, 1, 2, 3, 3, 4}}, // the document's example
		{[]int{2, 2}, []int{1, 2, 3, 4}, 1, 1, []int{1, 2, 2, 3, 4, 4}},
		{[]int{2, 2}, []int{1, 2, 3, 4}, 0, 0, []int{1, 2, 1, 2, 3, 4}},
		{[]int{2, 2}, []int{1, 2, 3, 4}, 0, 1, []int{1, 2, 3, 4, 3, 4}},
		{[]int{1}, []int{-5}, 0, 0, []int{-5, -5}},
		{[]int{3}, []int{1, 2, 3}, 0, 0, []int{1, 1, 2, 3}},
		{[]int{3}, []int{1, 2, 3}, 0, 1, []int{1, 2, 2, 3}},
		{[]int{3}, []int{1, 2, 3}, 0, 2, []int{1, 2, 3, 3}},
		{[]int{1, 1, 1}, []int{7}, 1, 0, []int{7, 7}},
		{[]int{2, 1, 2}, []int{1, 2, 3, 4}, 1, 0, []int{1, 2, 1, 2, 3, 4, 3, 4}},
		{[]int{2, 2, 2}, []int{1, 2, 3, 4, 5, 6, 7, 8}, 1, 1, []int{1, 2, 3, 4, 3, 4, 5, 6, 7, 8, 7, 8}},
	} {
		s := of(t, x.sizes, x.cells)
		if e := s.Grow(x.at, x.i); e != api.OK {
			t.Errorf("Grow(%d, %d) of %v: %d", x.at, x.i, x.sizes, e)
		}
		sizes := slices.Clone(x.sizes)
		sizes[x.at]++
		holds(t, s, sizes, x.want)
		if e := s.Shrink(x.at, x.i); e != api.OK {
			t.Errorf("Shrink(%d, %d) of %v: %d", x.at, x.i, sizes, e)
		}
		holds(t, s, x.sizes, x.cells)
	}
}

// ordered are the contents of cells, by the cells' order.
func ordered(l []plain) []int {
	slices.SortFunc(l, func(a plain, b plain) int { return slices.Compare(a.cell, b.cell) })
	var out []int
	for _, x := range l {
		out = append(out, x.n)
	}
	return out
}

// at is a cell with another number at a dimension.
func at(cell []int, dimension int, i int) []int {
	out := slices.Clone(cell)
	out[dimension] = i
	return out
}

// grown and shrunk say it word by word as the document does.
func grown(sizes []int, cells []int, dimension int, i int) ([]int, []int) {
	var out []plain
	for p, cell := range cellsOf(sizes) {
		switch number := cell[dimension]; {
		case number > i:
			out = append(out, plain{at(cell, dimension, number+1), cells[p]})
		case number == i:
			out = append(out, plain{cell, cells[p]}, plain{at(cell, dimension, i+1), cells[p]})
		default:
			out = append(out, plain{cell, cells[p]})
		}
	}
	return at(sizes, dimension, sizes[dimension]+1), ordered(out)
}

func shrunk(sizes []int, cells []int, dimension int, i int) ([]int, []int, bool) {
	var out []plain
	all := cellsOf(sizes)
	for p, cell := range all {
		switch number := cell[dimension]; {
		case number == i+1:
			like := slices.IndexFunc(all, func(c []int) bool { return slices.Equal(c, at(cell, dimension, i)) })
			if cells[like] != cells[p] {
				return nil, nil, false
			}
		case number > i+1:
			out = append(out, plain{at(cell, dimension, number-1), cells[p]})
		default:
			out = append(out, plain{cell, cells[p]})
		}
	}
	return at(sizes, dimension, sizes[dimension]-1), ordered(out), true
}

// P13.3, P13.4: at each number of each dimension, the first one and the last one too; what is grown is shrunk again.
func TestGrowAndShrink(t *testing.T) {
	for _, sizes := range small() {
		cells := row(product(sizes))
		for dimension, size := range sizes {
			for i := range size {
				s := of(t, sizes, cells)
				if e := s.Grow(dimension, i); e != api.OK {
					t.Fatalf("Grow(%d, %d) of %v: %d", dimension, i, sizes, e)
				}
				wider, more := grown(sizes, cells, dimension, i)
				holds(t, s, wider, more)
				for other := range size { // of contents that are not the same no others are shrunk
					if e := s.Shrink(dimension, other); other != i && e != api.BadRequest {
						t.Fatalf("Shrink(%d, %d) of %v: %d", dimension, other, wider, e)
					}
					if other == i {
						holds(t, s, sizes, cells)
						s.Grow(dimension, i)
					}
				}
				holds(t, s, wider, more)
			}
		}
	}
}

// P13.3, R3: one cell alone that has not the content of the one ahead of it, wherever it stands.
func TestShrinkOfOthers(t *testing.T) {
	for _, sizes := range [][]int{{2}, {4}, {2, 2}, {3, 2}, {2, 3, 2}, {2, 1, 2, 2}, {1, 2, 1, 2, 1, 2}} {
		cells := slices.Repeat([]int{5}, product(sizes))
		for dimension, size := range sizes {
			for i := range size - 1 {
				for p := range cells {
					other := slices.Clone(cells)
					other[p] = 6
					s := of(t, sizes, other)
					less, fewer, is := shrunk(sizes, other, dimension, i)
					e := s.Shrink(dimension, i)
					if is {
						holds(t, s, less, fewer)
					} else {
						holds(t, s, sizes, other)
					}
					if is != (e == api.OK) || !is && e != api.BadRequest {
						t.Errorf("Shrink(%d, %d) of %v: %d", dimension, i, other, e)
					}
				}
			}
		}
	}
}

// P13.3, R3
func TestGrowAndShrinkRefuse(t *testing.T) {
	for _, sizes := range shapes() {
		cells := slices.Repeat([]int{5}, product(sizes))
		s := of(t, sizes, cells)
		refuse := func(dimension int, i int) {
			t.Helper()
			if e := s.Grow(dimension, i); e != api.BadRequest {
				t.Errorf("Grow(%d, %d) of %v: %d", dimension, i, sizes, e)
			}
			if e := s.Shrink(dimension, i); e != api.BadRequest {
				t.Errorf("Shrink(%d, %d) of %v: %d", dimension, i, sizes, e)
			}
		}
		for _, dimension := range append([]int{len(sizes)}, wrongPlaces...) {
			for _, i := range append([]int{0, 1}, wrongNumbers...) {
				refuse(dimension, i)
			}
		}
		for dimension, size := range sizes {
			for _, i := range append([]int{size, size + 1}, wrongNumbers...) {
				refuse(dimension, i)
			}
			if e := s.Shrink(dimension, size-1); e != api.BadRequest { // nothing stands behind the last one
				t.Errorf("Shrink(%d, %d) of %v: %d", dimension, size-1, sizes, e)
			}
		}
		if !slices.Equal(s.Sizes(), sizes) || !slices.Equal(s.Cells(), cells) {
			t.Errorf("%v has changed: %v, %v", sizes, s.Sizes(), s.Cells())
		}
	}
}

// P13.3, R2: 4096 cells may be, one more may not; what may not be asked is told first.
func TestGrowToTheLimit(t *testing.T) {
	for _, sizes := range shapes() {
		n := product(sizes)
		cells := row(n)
		for dimension, size := range sizes {
			more := n / size * (size + 1)
			want := api.OK
			if more > 4096 {
				want = api.DirectoryLimit
			}
			for _, i := range []int{0, size / 2, size - 1} {
				s := of(t, sizes, cells)
				if e := s.Grow(dimension, i); e != want {
					t.Errorf("Grow(%d, %d) of %v: %d, want %d", dimension, i, sizes, e, want)
				}
				if want == api.OK {
					if len(s.Cells()) != more || s.Shrink(dimension, i) != api.OK {
						t.Errorf("Grow(%d, %d) of %v: %v", dimension, i, sizes, s.Sizes())
					}
				}
				if !slices.Equal(s.Sizes(), sizes) || !slices.Equal(s.Cells(), cells) {
					t.Errorf("Grow(%d, %d) of %v: %v", dimension, i, sizes, s.Sizes())
				}
				if e := s.Grow(dimension, size); e != api.BadRequest {
					t.Errorf("Grow(%d, %d) of %v: %d", dimension, size, sizes, e)
				}
			}
		}
	}
	s, _ := slab.New(1, 3)
	for n := 1; n < 4096; n++ {
		if e := s.Grow(0, n/2); e != api.OK {
			t.Fatalf("Grow of %d cells: %d", n, e)
		}
	}
	if e := s.Grow(0, 4095); e != api.DirectoryLimit || len(s.Cells()) != 4096 {
		t.Errorf("Grow of 4096 cells: %d", e)
	}
	for n := 4096; n > 1; n-- {
		if e := s.Shrink(0, n/2-1); e != api.OK {
			t.Fatalf("Shrink of %d cells: %d", n, e)
		}
	}
	holds(t, s, []int{1}, []int{3})
}

// P13.2, P13.3: long rows of calls, told beside what says it word by word.
func TestRows(t *testing.T) {
	for seed := range int64(60) {
		r := rand.New(rand.NewSource(seed))
		sizes, cells := slices.Repeat([]int{1}, 1+r.Intn(6)), []int{0}
		s, _ := slab.New(len(sizes), 0)
		for range 150 {
			dimension := r.Intn(len(sizes))
			i := r.Intn(sizes[dimension])
			switch r.Intn(3) {
			case 0:
				if len(cells) > 100 {
					continue
				}
				sizes, cells = grown(sizes, cells, dimension, i)
				if e := s.Grow(dimension, i); e != api.OK {
					t.Fatalf("Grow(%d, %d): %d", dimension, i, e)
				}
			case 1:
				want := api.BadRequest
				if less, fewer, is := shrunk(sizes, cells, dimension, i); is && i < sizes[dimension]-1 {
					want, sizes, cells = api.OK, less, fewer
				}
				if e := s.Shrink(dimension, i); e != want {
					t.Fatalf("Shrink(%d, %d): %d, want %d", dimension, i, e, want)
				}
			default:
				low, high := stretch(r, sizes)
				n := r.Intn(4)
				for p, cell := range cellsOf(sizes) {
					if within(cell, low, high) {
						cells[p] = n
					}
				}
				if e := s.Fill(low, high, n); e != api.OK {
					t.Fatalf("Fill(%v, %v): %d", low, high, e)
				}
			}
			if !slices.Equal(s.Sizes(), sizes) || !slices.Equal(s.Cells(), cells) {
				t.Fatalf("%v, %v, want %v, %v", s.Sizes(), s.Cells(), sizes, cells)
			}
		}
		holds(t, s, sizes, cells)
	}
}

// P13.4: a point's interval that is cut in two has the contents it had, in a grid's scale.
func TestPointsKeepTheirContents(t *testing.T) {
	r := rand.New(rand.NewSource(2))
	for dim := 1; dim <= 6; dim++ {
		x, _ := scale.New(dim)
		s, _ := slab.New(dim, 0)
		var points []api.Key
		for range 40 {
			k := make(api.Key, dim)
			for i := range k {
				k[i] = r.Uint32()
			}
			points = append(points, k)
		}
		content := func(k api.Key) int {
			cell, _ := x.Find(k)
			n, e := s.Get(cell)
			if e != api.OK {
				t.Fatalf("Get(%v): %d", cell, e)
			}
			return n
		}
		for range 8 {
			s = of(t, s.Sizes(), row(len(s.Cells()))) // each cell another content
			var before []int
			for _, k := range points {
				before = append(before, content(k))
			}
			dimension := r.Intn(dim)
			i, _ := x.Insert(dimension, 1+r.Uint32()>>1)
			if e := s.Grow(dimension, i); e != api.OK {
				t.Fatalf("Grow(%d, %d): %d", dimension, i, e)
			}
			for p, k := range points {
				if have := content(k); have != before[p] {
					t.Fatalf("the content of %v: %d, want %d", k, have, before[p])
				}
			}
		}
	}
}

// lastOf is the last cell.
func lastOf(s *slab.Slab) []int {
	out := s.Sizes()
	for i := range out {
		out[i]--
	}
	return out
}

// spoil writes into a list, and into its spare room.
func spoil(l []int) {
	l = l[:cap(l)]
	for i := range l {
		l[i] = 77777
	}
}

// R5: what is handed in is not changed, nor its spare room, and not kept; what is answered is not the slab's.
func TestListsAreNew(t *testing.T) {
	room := []int{2, 3, 0, 1, 1, 2, 10, 11, 12, 13, 14, 15, 16, 17}
	before := slices.Clone(room)
	sizes, cells := []int{2, 3}, []int{10, 11, 12, 13, 14, 15}
	s := of(t, room[:2], room[6:12])
	for range 3 {
		low, high := room[2:4], room[4:6]
		if l, e := s.Seen(low, high); e != api.OK || !slices.Equal(l, []int{11, 12, 14, 15}) {
			t.Fatalf("Seen: %v, %d", l, e)
		} else {
			spoil(l)
		}
		s.Get(low)
		s.Place(high)
		s.Grow(1, 2)
		s.Shrink(1, 2)
		for p := range cells {
			cell := []int{p / 3, p % 3}
			s.Fill(cell, cell, cells[p]) // low and high may be one list
		}
		spoil(s.Sizes())
		spoil(s.Cells())
		if !slices.Equal(room, before) {
			t.Fatalf("what was handed in has changed: %v", room)
		}
		holds(t, s, sizes, cells)
	}
	if e := s.Fill(room[2:4], room[4:6], 9); e != api.OK || !slices.Equal(room, before) {
		t.Errorf("Fill: %d, %v", e, room)
	}
	spoil(room)
	holds(t, s, sizes, []int{10, 9, 9, 13, 9, 9})
	a, b := s.Cells(), s.Cells()
	spoil(a)
	if b[0] != 10 {
		t.Error("two answers share their memory")
	}
}

// R5: two slabs of one list share nothing.
func TestSlabsAreTheirOwn(t *testing.T) {
	sizes, cells := []int{2, 2}, []int{1, 2, 3, 4}
	a, b := of(t, sizes, cells), of(t, sizes, cells)
	a.Fill([]int{0, 0}, []int{1, 1}, 9)
	a.Grow(0, 1)
	holds(t, a, []int{3, 2}, []int{9, 9, 9, 9, 9, 9})
	holds(t, b, sizes, cells)
	c := of(t, b.Sizes(), b.Cells())
	c.Fill([]int{0, 0}, []int{0, 0}, 5)
	holds(t, b, sizes, cells)
	holds(t, c, sizes, []int{5, 2, 3, 4})
}

// R6: the same again, it is the same.
func TestAgain(t *testing.T) {
	for _, sizes := range small() {
		cells := row(product(sizes))
		s := of(t, sizes, cells)
		for range 3 {
			holds(t, s, sizes, cells)
			low, high := make([]int, len(sizes)), lastOf(s)
			if l, e := s.Seen(low, high); e != api.OK || !slices.Equal(l, cells) {
				t.Fatalf("Seen of all: %v, %d", l, e)
			}
		}
	}
}
