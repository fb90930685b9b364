package scale_test

import (
	"encoding/binary"
	"math"
	"math/rand"
	"slices"
	"strings"
	"testing"

	"cadastre/api"
	"cadastre/key"
	"cadastre/scale"
)

const most = math.MaxUint32

var (
	wrongDims   = []int{math.MinInt, -6, -1, 0, 7, 8, 100, 1<<32 + 1, math.MaxInt}    // numbers of coordinates that no scale has
	wrongPlaces = []int{math.MinInt, -7, -1, 6, 7, 100, 1 << 32, math.MaxInt}         // of which no scale has a coordinate
	wrongBounds = []int{math.MinInt, -64, -1, 63, 64, 255, 256, 1 << 32, math.MaxInt} // of which no coordinate has a bound
)

func create(t *testing.T, dim int) *scale.Scale {
	t.Helper()
	s, e := scale.New(dim)
	if s == nil || e != api.OK {
		t.Fatalf("New(%d): %v, %d", dim, s, e)
	}
	return s
}

// of is a scale of these bounds.
func of(t *testing.T, bounds ...[]uint32) *scale.Scale {
	t.Helper()
	s := create(t, len(bounds))
	for at, l := range bounds {
		for i, bound := range l {
			if n, e := s.Insert(at, bound); n != i || e != api.OK {
				t.Fatalf("Insert(%d, %d): %d, %d", at, bound, n, e)
			}
		}
	}
	return s
}

// row are rising bounds, so many.
func row(n int) []uint32 {
	out := make([]uint32, n)
	for i := range out {
		out[i] = uint32(i+1) * 1000
	}
	return out
}

// encoded and interval say it word by word as the document does.
func encoded(bounds [][]uint32) string {
	var out []byte
	for _, l := range bounds {
		out = append(out, byte(len(l)))
		for _, bound := range l {
			out = binary.BigEndian.AppendUint32(out, bound)
		}
	}
	return string(out)
}

func interval(l []uint32, n uint32) int {
	i := 0
	for _, bound := range l {
		if n >= bound {
			i++
		}
	}
	return i
}

func cell(bounds [][]uint32, k api.Key) []int {
	var out []int
	for at, l := range bounds {
		out = append(out, interval(l, k[at]))
	}
	return out
}

// boxed is the box of two cells, by their intervals' ends.
func boxed(bounds [][]uint32, low []int, high []int) api.Box {
	var b api.Box
	for at, l := range bounds {
		begins := append([]uint32{0}, l...)
		var ends []uint32
		for _, bound := range l {
			ends = append(ends, bound-1)
		}
		ends = append(ends, most)
		b.Low, b.High = append(b.Low, begins[low[at]]), append(b.High, ends[high[at]])
	}
	return b
}

func sameBox(a api.Box, b api.Box) bool {
	return slices.Equal(a.Low, b.Low) && slices.Equal(a.High, b.High)
}

func copiedBounds(bounds [][]uint32) [][]uint32 {
	var out [][]uint32
	for _, l := range bounds {
		out = append(out, slices.Clone(l))
	}
	return out
}

// holds expects of a scale just these bounds, by all that it tells.
func holds(t *testing.T, s *scale.Scale, bounds [][]uint32) {
	t.Helper()
	var sizes []int
	for _, l := range bounds {
		sizes = append(sizes, len(l)+1)
	}
	if have := s.Sizes(); !slices.Equal(have, sizes) {
		t.Fatalf("Sizes: %v, want %v", have, sizes)
	}
	if have := s.Encode(); have != encoded(bounds) {
		t.Fatalf("Encode: %x, want %x", have, encoded(bounds))
	}
	first, last := make([]int, len(bounds)), make([]int, len(bounds))
	for at, n := range sizes {
		last[at] = n - 1
	}
	if b, e := s.Box(first, last); !sameBox(b, key.Whole(len(bounds))) || e != api.OK {
		t.Fatalf("Box of all cells: %v, %d", b, e)
	}
	for at, l := range bounds {
		for i := range sizes[at] {
			low, high := slices.Clone(first), slices.Clone(last)
			low[at], high[at] = i, i
			want := boxed(bounds, low, high)
			if b, e := s.Box(low, high); !sameBox(b, want) || e != api.OK {
				t.Fatalf("Box(%v, %v): %v, %d, want %v", low, high, b, e, want)
			}
		}
		for _, bound := range append([]uint32{1, most}, l...) {
			for _, n := range []uint32{0, bound - 1, bound, bound + 1} {
				k := make(api.Key, len(bounds))
				k[at] = n
				if c, e := s.Find(k); !slices.Equal(c, cell(bounds, k)) || e != api.OK {
					t.Fatalf("Find(%v): %v, %d, want %v", k, c, e, cell(bounds, k))
				}
			}
		}
	}
}

// P12.1
func TestNew(t *testing.T) {
	for dim := 1; dim <= 6; dim++ {
		holds(t, create(t, dim), make([][]uint32, dim))
	}
	for _, dim := range wrongDims {
		if s, e := scale.New(dim); s != nil || e != api.BadRequest {
			t.Errorf("New(%d): %v, %d", dim, s, e)
		}
	}
}

// refusesAll expects of a scale without coordinates that each call tells that.
func refusesAll(t *testing.T, s *scale.Scale) {
	t.Helper()
	for _, n := range append([]int{0, 1, 5}, wrongPlaces...) {
		if i, e := s.Insert(n, 7); i != 0 || e != api.BadRequest {
			t.Errorf("Insert(%d, 7): %d, %d", n, i, e)
		}
		if e := s.Remove(n, 0); e != api.BadRequest {
			t.Errorf("Remove(%d, 0): %d", n, e)
		}
		if e := s.Remove(0, n); e != api.BadRequest {
			t.Errorf("Remove(0, %d): %d", n, e)
		}
	}
	for size := range 8 {
		if c, e := s.Find(make(api.Key, size)); len(c) != 0 || e != api.BadRequest {
			t.Errorf("Find: %v, %d", c, e)
		}
		if b, e := s.Box(make([]int, size), make([]int, size)); len(b.Low)+len(b.High) != 0 || e != api.BadRequest {
			t.Errorf("Box: %v, %d", b, e)
		}
		if low, high, e := s.Meet(api.Box{Low: make(api.Key, size), High: make(api.Key, size)}); len(low)+len(high) != 0 || e != api.BadRequest {
			t.Errorf("Meet: %v, %v, %d", low, high, e)
		}
	}
	if b, e := s.Box(nil, nil); len(b.Low)+len(b.High) != 0 || e != api.BadRequest {
		t.Errorf("Box of nothing: %v, %d", b, e)
	}
	if len(s.Sizes()) != 0 || s.Encode() != "" {
		t.Errorf("it has something: %v, %q", s.Sizes(), s.Encode())
	}
}

// P12.1, R1
func TestNil(t *testing.T) {
	var s *scale.Scale
	refusesAll(t, s)
	if s.Copy() != nil {
		t.Error("a copy of nil is something")
	}
}

// R1: a scale that neither New nor Decode made has no coordinates.
func TestZero(t *testing.T) {
	s := new(scale.Scale)
	refusesAll(t, s)
	refusesAll(t, s.Copy())
}

// P12.2: by hand.
func TestInsertByHand(t *testing.T) {
	s := create(t, 2)
	for _, x := range []struct {
		at    int
		bound uint32
		want  int
		e     api.Errno
		first []uint32
		other []uint32
	}{
		{0, 5, 0, api.OK, []uint32{5}, nil}, {0, 9, 1, api.OK, []uint32{5, 9}, nil}, {0, 5, 0, api.BadRequest, []uint32{5, 9}, nil}, {0, 9, 0, api.BadRequest, []uint32{5, 9}, nil},
		{0, 0, 0, api.BadRequest, []uint32{5, 9}, nil}, {1, 0, 0, api.BadRequest, []uint32{5, 9}, nil}, {1, 5, 0, api.OK, []uint32{5, 9}, []uint32{5}},
		{0, 1, 0, api.OK, []uint32{1, 5, 9}, []uint32{5}}, {0, most, 3, api.OK, []uint32{1, 5, 9, most}, []uint32{5}}, {0, 7, 2, api.OK, []uint32{1, 5, 7, 9, most}, []uint32{5}},
		{0, most, 0, api.BadRequest, []uint32{1, 5, 7, 9, most}, []uint32{5}}, {0, 1, 0, api.BadRequest, []uint32{1, 5, 7, 9, most}, []uint32{5}},
		{2, 3, 0, api.BadRequest, []uint32{1, 5, 7, 9, most}, []uint32{5}}, {-1, 3, 0, api.BadRequest, []uint32{1, 5, 7, 9, most}, []uint32{5}},
		{1, most - 1, 1, api.OK, []uint32{1, 5, 7, 9, most}, []uint32{5, most - 1}},
	} {
		if n, e := s.Insert(x.at, x.bound); n != x.want || e != x.e {
			t.Errorf("Insert(%d, %d): %d, %d, want %d, %d", x.at, x.bound, n, e, x.want, x.e)
		}
		holds(t, s, [][]uint32{x.first, x.other})
	}
}

// P12.2, R3: of each number of coordinates.
func TestInsertRefuses(t *testing.T) {
	for dim := 1; dim <= 6; dim++ {
		bounds := slices.Repeat([][]uint32{{5, 9}}, dim)
		s := of(t, bounds...)
		for _, at := range append([]int{dim, dim + 1}, wrongPlaces...) {
			for _, bound := range []uint32{0, 1, 5, most} {
				if n, e := s.Insert(at, bound); n != 0 || e != api.BadRequest {
					t.Errorf("Insert(%d, %d): %d, %d", at, bound, n, e)
				}
			}
		}
		for at := range dim {
			for _, bound := range []uint32{0, 5, 9} {
				if n, e := s.Insert(at, bound); n != 0 || e != api.BadRequest {
					t.Errorf("Insert(%d, %d): %d, %d", at, bound, n, e)
				}
			}
		}
		holds(t, s, bounds)
	}
}

// P12.2, R2: of 63 bounds one more is told to be too many, but what may not be is told first.
func TestInsertOfTooMany(t *testing.T) {
	for dim := 1; dim <= 6; dim++ {
		for at := range dim {
			bounds := make([][]uint32, dim)
			bounds[at] = row(63)
			s := of(t, bounds...)
			for _, bound := range []uint32{1, 999, 1001, 33001, 62999, 63001, most} {
				if n, e := s.Insert(at, bound); n != 0 || e != api.DirectoryLimit {
					t.Errorf("Insert(%d, %d): %d, %d", at, bound, n, e)
				}
			}
			for _, bound := range []uint32{0, 1000, 33000, 63000} {
				if n, e := s.Insert(at, bound); n != 0 || e != api.BadRequest {
					t.Errorf("Insert(%d, %d): %d, %d", at, bound, n, e)
				}
			}
			if n, e := s.Insert(dim, 7); n != 0 || e != api.BadRequest {
				t.Errorf("Insert(%d, 7): %d, %d", dim, n, e)
			}
			holds(t, s, bounds)
			if e := s.Remove(at, 62); e != api.OK {
				t.Errorf("Remove(%d, 62): %d", at, e)
			}
			if n, e := s.Insert(at, 1); n != 0 || e != api.OK {
				t.Errorf("Insert(%d, 1): %d, %d", at, n, e)
			}
			bounds[at] = append([]uint32{1}, row(62)...)
			holds(t, s, bounds)
		}
	}
}

// P12.2: by hand.
func TestRemoveByHand(t *testing.T) {
	s := of(t, []uint32{5, 9, 20}, []uint32{7})
	for _, x := range []struct {
		at, i int
		e     api.Errno
		first []uint32
		other []uint32
	}{
		{0, 3, api.BadRequest, []uint32{5, 9, 20}, []uint32{7}}, {0, -1, api.BadRequest, []uint32{5, 9, 20}, []uint32{7}}, {2, 0, api.BadRequest, []uint32{5, 9, 20}, []uint32{7}}, {1, 1, api.BadRequest, []uint32{5, 9, 20}, []uint32{7}},
		{0, 1, api.OK, []uint32{5, 20}, []uint32{7}}, {0, 2, api.BadRequest, []uint32{5, 20}, []uint32{7}}, {0, 1, api.OK, []uint32{5}, []uint32{7}}, {0, 1, api.BadRequest, []uint32{5}, []uint32{7}},
		{1, 0, api.OK, []uint32{5}, nil}, {1, 0, api.BadRequest, []uint32{5}, nil}, {0, 0, api.OK, nil, nil}, {0, 0, api.BadRequest, nil, nil},
	} {
		if e := s.Remove(x.at, x.i); e != x.e {
			t.Errorf("Remove(%d, %d): %d, want %d", x.at, x.i, e, x.e)
		}
		holds(t, s, [][]uint32{x.first, x.other})
	}
}

// P12.2, R3
func TestRemoveRefuses(t *testing.T) {
	for dim := 1; dim <= 6; dim++ {
		bounds := slices.Repeat([][]uint32{row(dim)}, dim)
		s := of(t, bounds...)
		for _, at := range append([]int{dim, dim + 1}, wrongPlaces...) {
			for i := -1; i <= dim; i++ {
				if e := s.Remove(at, i); e != api.BadRequest {
					t.Errorf("Remove(%d, %d): %d", at, i, e)
				}
			}
		}
		for at := range dim {
			for _, i := range append([]int{dim, dim + 1}, wrongBounds...) {
				if e := s.Remove(at, i); e != api.BadRequest {
					t.Errorf("Remove(%d, %d): %d", at, i, e)
				}
			}
		}
		holds(t, s, bounds)
	}
}

// P12.5: what is inserted and removed leaves all as it was.
func TestInsertAndRemove(t *testing.T) {
	for dim := 1; dim <= 6; dim++ {
		bounds := slices.Repeat([][]uint32{{5, 9, 1 << 31, most - 1}}, dim)
		s := of(t, bounds...)
		for at := range dim {
			for _, bound := range []uint32{1, 4, 6, 8, 10, 1<<31 - 1, 1<<31 + 1, most - 2, most} {
				n, e := s.Insert(at, bound)
				if e != api.OK || n != interval(bounds[at], bound) {
					t.Fatalf("Insert(%d, %d): %d, %d", at, bound, n, e)
				}
				if e := s.Remove(at, n); e != api.OK {
					t.Fatalf("Remove(%d, %d): %d", at, n, e)
				}
				holds(t, s, bounds)
			}
		}
	}
}

// P12.2: long rows of calls, told beside plain lists.
func TestRows(t *testing.T) {
	for seed := range int64(60) {
		r := rand.New(rand.NewSource(seed))
		dim, numbers := 1+r.Intn(6), 3+r.Intn(100)
		s, bounds := create(t, dim), make([][]uint32, dim)
		for range 400 {
			at := r.Intn(dim)
			if r.Intn(3) > 0 {
				bound := uint32(r.Intn(numbers)) * 1000
				have, e := s.Insert(at, bound)
				i, is := slices.BinarySearch(bounds[at], bound)
				want := api.OK
				switch {
				case bound == 0 || is:
					want, i = api.BadRequest, 0
				case len(bounds[at]) == 63:
					want, i = api.DirectoryLimit, 0
				default:
					bounds[at] = slices.Insert(bounds[at], i, bound)
				}
				if have != i || e != want {
					t.Fatalf("Insert(%d, %d): %d, %d, want %d, %d", at, bound, have, e, i, want)
				}
			} else {
				i := r.Intn(len(bounds[at]) + 1)
				want := api.BadRequest
				if i < len(bounds[at]) {
					want, bounds[at] = api.OK, slices.Delete(bounds[at], i, i+1)
				}
				if e := s.Remove(at, i); e != want {
					t.Fatalf("Remove(%d, %d): %d, want %d", at, i, e, want)
				}
			}
			if have := s.Encode(); have != encoded(bounds) {
				t.Fatalf("Encode: %x, want %x", have, encoded(bounds))
			}
		}
		holds(t, s, bounds)
	}
}

// samples are bounds of all numbers of coordinates.
func samples() [][][]uint32 {
	var out [][][]uint32
	for dim := 1; dim <= 6; dim++ {
		out = append(out, make([][]uint32, dim), slices.Repeat([][]uint32{{5, 9}}, dim), slices.Repeat([][]uint32{row(63)}, dim))
		var mixed [][]uint32
		for at := range dim {
			mixed = append(mixed, [][]uint32{{1, most}, nil, {1, 2, 3, 4}, {1 << 31}, {most - 1, most}, row(5)}[at])
		}
		out = append(out, mixed)
	}
	return out
}

// P12.3: by hand.
func TestFindByHand(t *testing.T) {
	s := of(t, []uint32{5, 9}, nil, []uint32{1, most})
	for _, x := range []struct {
		k    api.Key
		want []int
	}{
		{api.Key{0, 0, 0}, []int{0, 0, 0}}, {api.Key{4, 4, 1}, []int{0, 0, 1}}, {api.Key{5, most, most - 1}, []int{1, 0, 1}}, {api.Key{7, 0, 2}, []int{1, 0, 1}},
		{api.Key{8, 1, most}, []int{1, 0, 2}}, {api.Key{9, 9, 0}, []int{2, 0, 0}}, {api.Key{most, most, most}, []int{2, 0, 2}},
	} {
		if c, e := s.Find(x.k); !slices.Equal(c, x.want) || e != api.OK {
			t.Errorf("Find(%v): %v, %d, want %v", x.k, c, e, x.want)
		}
	}
	if b, e := s.Box([]int{1, 0, 1}, []int{1, 0, 1}); !sameBox(b, api.Box{Low: api.Key{5, 0, 1}, High: api.Key{8, most, most - 1}}) || e != api.OK {
		t.Errorf("Box: %v, %d", b, e)
	}
}

// P12.3, R3
func TestFindRefuses(t *testing.T) {
	for dim := 1; dim <= 6; dim++ {
		s := of(t, slices.Repeat([][]uint32{{5}}, dim)...)
		for size := range 9 {
			if c, e := s.Find(make(api.Key, size)); size != dim && (len(c) != 0 || e != api.BadRequest) {
				t.Errorf("Find of %d coordinates among %d: %v, %d", size, dim, c, e)
			}
		}
		if c, e := s.Find(nil); len(c) != 0 || e != api.BadRequest {
			t.Errorf("Find(nil): %v, %d", c, e)
		}
	}
}

// point is one of so many coordinates, at or beside the bounds.
func point(r *rand.Rand, bounds [][]uint32) api.Key {
	k := make(api.Key, len(bounds))
	for at, l := range bounds {
		k[at] = []uint32{0, 1, most, r.Uint32()}[r.Intn(4)]
		if len(l) > 0 && r.Intn(4) > 0 {
			k[at] = l[r.Intn(len(l))] + uint32(r.Intn(3)) - 1
		}
	}
	return k
}

// P12.3, P12.5: a point is in the box of its cell; two points in one box are in its cells.
func TestFindAndBox(t *testing.T) {
	r := rand.New(rand.NewSource(1))
	for _, bounds := range samples() {
		s := of(t, bounds...)
		for range 300 {
			k := point(r, bounds)
			c, e := s.Find(k)
			if !slices.Equal(c, cell(bounds, k)) || e != api.OK {
				t.Fatalf("Find(%v): %v, %d, want %v", k, c, e, cell(bounds, k))
			}
			b, e := s.Box(c, c)
			if !key.In(k, b) || !sameBox(b, boxed(bounds, c, c)) || e != api.OK {
				t.Fatalf("Box(%v, %v): %v, %d, want %v", c, c, b, e, boxed(bounds, c, c))
			}
			for _, corner := range []api.Key{b.Low, b.High} { // none of the box is in another cell
				if again, _ := s.Find(corner); !slices.Equal(again, c) {
					t.Fatalf("Find(%v): %v, want %v", corner, again, c)
				}
			}
		}
	}
}

// P12.3: boxes of more than one cell.
func TestBox(t *testing.T) {
	r := rand.New(rand.NewSource(2))
	for _, bounds := range samples() {
		s := of(t, bounds...)
		for range 300 {
			low, high := make([]int, len(bounds)), make([]int, len(bounds))
			rise := true
			for at, l := range bounds {
				low[at], high[at] = r.Intn(len(l)+1), r.Intn(len(l)+1)
				if r.Intn(6) > 0 && low[at] > high[at] {
					low[at], high[at] = high[at], low[at]
				}
				rise = rise && low[at] <= high[at]
			}
			b, e := s.Box(low, high)
			if !rise {
				if len(b.Low)+len(b.High) != 0 || e != api.BadRequest {
					t.Fatalf("Box(%v, %v): %v, %d", low, high, b, e)
				}
			} else if !sameBox(b, boxed(bounds, low, high)) || e != api.OK {
				t.Fatalf("Box(%v, %v): %v, %d, want %v", low, high, b, e, boxed(bounds, low, high))
			}
		}
	}
}

// P12.3, R3: one number that is wrong, wherever it stands.
func TestBoxRefuses(t *testing.T) {
	for dim := 1; dim <= 6; dim++ {
		s := of(t, slices.Repeat([][]uint32{{5, 9}}, dim)...)
		refuse := func(low []int, high []int) {
			t.Helper()
			if b, e := s.Box(low, high); len(b.Low)+len(b.High) != 0 || e != api.BadRequest {
				t.Errorf("Box(%v, %v): %v, %d", low, high, b, e)
			}
		}
		for low := range 9 {
			for high := range 9 {
				if low != dim || high != dim {
					refuse(make([]int, low), make([]int, high))
				}
			}
		}
		refuse(nil, nil)
		for at := range dim {
			for _, x := range [][2]int{{-1, 1}, {-1, -1}, {math.MinInt, 0}, {0, 3}, {3, 3}, {0, -1}, {1, 0}, {2, 1}, {2, 0}, {3, 2}, {0, math.MaxInt}, {math.MaxInt, math.MaxInt}, {1 << 32, 1 << 32}} {
				low, high := make([]int, dim), slices.Repeat([]int{2}, dim)
				low[at], high[at] = x[0], x[1]
				refuse(low, high)
			}
		}
	}
}

// P12.3
func TestMeet(t *testing.T) {
	r := rand.New(rand.NewSource(3))
	for _, bounds := range samples() {
		s := of(t, bounds...)
		for range 300 {
			b := api.Box{Low: point(r, bounds), High: point(r, bounds)}
			may := true
			for at := range b.Low {
				if r.Intn(6) > 0 && b.Low[at] > b.High[at] {
					b.Low[at], b.High[at] = b.High[at], b.Low[at]
				}
				may = may && b.Low[at] <= b.High[at]
			}
			low, high, e := s.Meet(b)
			if !may {
				if len(low)+len(high) != 0 || e != api.BadRequest {
					t.Fatalf("Meet(%v): %v, %v, %d", b, low, high, e)
				}
			} else if !slices.Equal(low, cell(bounds, b.Low)) || !slices.Equal(high, cell(bounds, b.High)) || e != api.OK {
				t.Fatalf("Meet(%v): %v, %v, %d, want %v, %v", b, low, high, e, cell(bounds, b.Low), cell(bounds, b.High))
			}
		}
		whole := key.Whole(len(bounds))
		if low, high, e := s.Meet(whole); !slices.Equal(low, cell(bounds, whole.Low)) || !slices.Equal(high, cell(bounds, whole.High)) || e != api.OK {
			t.Errorf("Meet of all: %v, %v, %d", low, high, e)
		}
	}
	s := of(t, []uint32{5, 9}, []uint32{7})
	if low, high, e := s.Meet(api.Box{Low: api.Key{4, 7}, High: api.Key{9, 7}}); !slices.Equal(low, []int{0, 1}) || !slices.Equal(high, []int{2, 1}) || e != api.OK {
		t.Errorf("Meet: %v, %v, %d", low, high, e)
	}
	if low, high, e := s.Meet(api.Box{Low: api.Key{5, 6}, High: api.Key{8, 6}}); !slices.Equal(low, []int{1, 0}) || !slices.Equal(high, []int{1, 0}) || e != api.OK {
		t.Errorf("Meet: %v, %v, %d", low, high, e)
	}
}

// P12.3, R3
func TestMeetRefuses(t *testing.T) {
	for dim := 1; dim <= 6; dim++ {
		s := of(t, slices.Repeat([][]uint32{{5, 9}}, dim)...)
		refuse := func(b api.Box) {
			t.Helper()
			if low, high, e := s.Meet(b); len(low)+len(high) != 0 || e != api.BadRequest {
				t.Errorf("Meet(%v): %v, %v, %d", b, low, high, e)
			}
		}
		for low := range 9 {
			for high := range 9 {
				if low != dim || high != dim {
					refuse(api.Box{Low: make(api.Key, low), High: make(api.Key, high)})
				}
			}
		}
		for at := range dim { // one number is above its other end, in one cell with it or not
			for _, n := range []uint32{7, 8, 9, most} {
				b := api.Box{Low: make(api.Key, dim), High: slices.Repeat(api.Key{6}, dim)}
				b.Low[at] = n
				refuse(b)
			}
		}
	}
}

// P12.4: by hand.
func TestEncodeByHand(t *testing.T) {
	for _, x := range []struct {
		bounds [][]uint32
		want   string
	}{
		{[][]uint32{nil}, "\x00"}, {[][]uint32{nil, nil}, "\x00\x00"}, {[][]uint32{{5, 9}}, "\x02\x00\x00\x00\x05\x00\x00\x00\x09"},
		{[][]uint32{nil, {0x01020304, most}, {1}}, "\x00\x02\x01\x02\x03\x04\xff\xff\xff\xff\x01\x00\x00\x00\x01"},
	} {
		if s := of(t, x.bounds...).Encode(); s != x.want {
			t.Errorf("Encode of %v: %x, want %x", x.bounds, s, x.want)
		}
		s, e := scale.Decode(len(x.bounds), x.want)
		if e != api.OK {
			t.Fatalf("Decode(%x): %d", x.want, e)
		}
		holds(t, s, x.bounds)
	}
}

// P12.4, P12.5: what is written is read, and goes on as what was written.
func TestEncode(t *testing.T) {
	for _, bounds := range samples() {
		dim := len(bounds)
		s, e := scale.Decode(dim, of(t, bounds...).Encode())
		if e != api.OK {
			t.Fatalf("Decode of %v: %d", bounds, e)
		}
		holds(t, s, bounds)
		for at := range dim {
			n, e := s.Insert(at, 500)
			if len(bounds[at]) == 63 {
				if e != api.DirectoryLimit {
					t.Fatalf("Insert(%d, 500) into what was read: %d", at, e)
				}
				continue
			}
			if want := interval(bounds[at], 500); n != want || e != api.OK {
				t.Fatalf("Insert(%d, 500) into what was read: %d, %d, want %d", at, n, e, want)
			}
			s.Remove(at, n)
		}
		holds(t, s, bounds)
	}
}

// fails expects of Decode just that error.
func fails(t *testing.T, dim int, s string, want api.Errno) {
	t.Helper()
	if x, e := scale.Decode(dim, s); x != nil || e != want {
		t.Errorf("Decode(%d, %x): %v, %d, want %d", dim, s, x, e, want)
	}
}

// P12.4, R2: wrong numbers of coordinates are told ahead of wrong bytes.
func TestDecodeRefuses(t *testing.T) {
	for _, dim := range wrongDims {
		for _, s := range []string{"", "\x00", "\x01", "\x00\x00\x00\x00\x00\x00\x00", strings.Repeat("\xff", 9999)} {
			fails(t, dim, s, api.BadRequest)
		}
	}
}

// P12.4: cut at each place, and bytes behind the end.
func TestDecodeCut(t *testing.T) {
	for _, bounds := range samples() {
		s, dim := encoded(bounds), len(bounds)
		for i := range s {
			fails(t, dim, s[:i], api.ErrCut)
		}
		for _, behind := range []string{"\x00", "x", s, strings.Repeat("\x00", 9999)} {
			fails(t, dim, s+behind, api.ErrForm)
		}
	}
}

// P12.4, R2: a text that is cut is told to be cut, whatever else is wrong in it.
func TestDecodeCutFirst(t *testing.T) {
	for _, bounds := range [][][]uint32{
		{{0}}, {{9, 5}}, {{5, 5}}, {{0, 0}, {1}}, {row(64)}, {row(255)}, {make([]uint32, 255)}, {{1}, {2, 1}, nil}, slices.Repeat([][]uint32{row(255)}, 6), {nil, row(64)}, {row(64), nil},
	} {
		s, dim := encoded(bounds), len(bounds)
		fails(t, dim, s, api.ErrForm)
		fails(t, dim, s+"x", api.ErrForm)
		for i := range s {
			fails(t, dim, s[:i], api.ErrCut)
		}
	}
}

// P12.4: one bound that may not be, wherever it stands.
func TestDecodeForm(t *testing.T) {
	for dim := 1; dim <= 6; dim++ {
		for at := range dim {
			for _, l := range [][]uint32{{0}, {0, 5}, {5, 0}, {5, 5}, {9, 5}, {5, 9, 9}, {5, 9, 8}, {5, 4, 9}, {most, most}, {most, 1}, row(64), row(128), row(255)} {
				bounds := slices.Repeat([][]uint32{{5, 9}}, dim)
				bounds[at] = l
				fails(t, dim, encoded(bounds), api.ErrForm)
			}
		}
	}
}

// decoded says it word by word as the document does.
func decoded(dim int, s string) ([][]uint32, api.Errno) {
	var bounds [][]uint32
	may := true
	for range dim {
		if s == "" || len(s) < 1+4*int(s[0]) {
			return nil, api.ErrCut
		}
		n := int(s[0])
		may = may && n <= 63
		s = s[1:]
		var l []uint32
		for range n {
			l = append(l, binary.BigEndian.Uint32([]byte(s[:4])))
			may = may && l[len(l)-1] > 0 && (len(l) < 2 || l[len(l)-2] < l[len(l)-1])
			s = s[4:]
		}
		bounds = append(bounds, l)
	}
	if s != "" || !may {
		return nil, api.ErrForm
	}
	return bounds, api.OK
}

// P12.4, P12.5: scales of which a few bytes are turned, put in, or taken out: what is read is what was written.
func TestDecodeSpoilt(t *testing.T) {
	r := rand.New(rand.NewSource(4))
	for _, bounds := range samples() {
		for range 300 {
			b := []byte(encoded(bounds))
			for range 1 + r.Intn(2) {
				i := r.Intn(len(b))
				switch r.Intn(4) {
				case 0:
					b = slices.Delete(b, i, min(len(b)-1, i+r.Intn(5))+1)
				case 1:
					b = slices.Insert(b, i, byte(r.Intn(3)), byte(r.Intn(256)))
				default:
					b[i] ^= 1 << r.Intn(8)
				}
				if len(b) == 0 {
					b = []byte{0}
				}
			}
			for _, dim := range []int{len(bounds), 1 + r.Intn(6)} {
				want, e := decoded(dim, string(b))
				s, f := scale.Decode(dim, string(b))
				if e != f || (s != nil) != (f == api.OK) {
					t.Fatalf("Decode(%d, %x): %v, %d, want %d", dim, b, s, f, e)
				}
				if f == api.OK {
					holds(t, s, want)
				}
			}
		}
	}
}

// P12.1, R5: a copy is of its own, and so is what it is a copy of.
func TestCopy(t *testing.T) {
	for _, bounds := range samples() {
		s := of(t, bounds...)
		c := s.Copy()
		holds(t, c, bounds)
		other := copiedBounds(bounds)
		for at := range bounds {
			if len(bounds[at]) > 0 {
				c.Remove(at, 0)
				other[at] = other[at][1:]
			}
			n, e := c.Insert(at, 77)
			if e != api.OK {
				t.Fatalf("Insert(%d, 77) into a copy: %d", at, e)
			}
			other[at] = slices.Insert(slices.Clone(other[at]), n, 77)
		}
		holds(t, s, bounds)
		holds(t, c, other)
		for at := range bounds {
			for s.Remove(at, 0) == api.OK {
			}
			s.Insert(at, 99)
		}
		holds(t, s, slices.Repeat([][]uint32{{99}}, len(bounds)))
		holds(t, c, other)
	}
}

// spoil writes into a list, and into its spare room.
func spoil[L ~[]E, E any](l L, n E) {
	l = l[:cap(l)]
	for i := range l {
		l[i] = n
	}
}

// R5: what is handed in is not changed, nor its spare room, and not kept; what is answered is not the scale's.
func TestListsAreNew(t *testing.T) {
	bounds := [][]uint32{{5, 9}, {7}}
	s := of(t, bounds...)
	keys := api.Key{5, 6, 8, 9, 11, 12}
	cells := []int{0, 1, 1, 1, 8, 9}
	points, places := slices.Clone(keys), slices.Clone(cells)
	for range 3 {
		c, _ := s.Find(keys[:2])
		low, high, _ := s.Meet(api.Box{Low: keys[:2], High: keys[2:4]})
		spoil(low, 1000)
		if !slices.Equal(high, []int{1, 1}) || !slices.Equal(c, []int{1, 0}) {
			t.Fatalf("the lists of an answer share something: %v, %v", high, c)
		}
		spoil(high, 1000)
		spoil(c, 1000)
		b, _ := s.Box(cells[:2], cells[2:4])
		spoil(b.Low, 1000)
		if !slices.Equal(b.High, api.Key{8, most}) {
			t.Fatalf("the ends of a box share something: %v", b)
		}
		spoil(b.High, 1000)
		spoil(s.Sizes(), 1000)
		if !slices.Equal(keys, points) || !slices.Equal(cells, places) {
			t.Fatalf("what was handed in has changed: %v, %v", keys, cells)
		}
		holds(t, s, bounds)
	}
	if low, high, _ := s.Meet(api.Box{Low: keys[:2], High: keys[:2]}); len(low) == 2 && len(high) == 2 {
		low[0] = 1000
		if high[0] == 1000 {
			t.Error("the cells of one point share something")
		}
	}
	spoil(keys, 1000)
	spoil(cells, 1000)
	holds(t, s, bounds)
}

// R6: the same again, it is the same.
func TestAgain(t *testing.T) {
	for _, bounds := range samples() {
		s := of(t, bounds...)
		for range 3 {
			holds(t, s, bounds)
			fails(t, len(bounds), s.Encode()+"x", api.ErrForm)
		}
	}
}
