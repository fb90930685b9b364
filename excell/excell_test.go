package excell_test

import (
	"math"
	"math/rand"
	"slices"
	"strconv"
	"strings"
	"testing"

	"cadastre/api"
	"cadastre/excell"
	"cadastre/key"
)

const most = math.MaxUint32

var (
	wrongDims   = []int{math.MinInt, -6, -1, 0, 7, 8, 1<<32 + 1, math.MaxInt}             // numbers of coordinates that no point has
	wrongDepths = []int{math.MinInt, -12, -1, 13, 14, 30, 64, 1 << 32, math.MaxInt}       // that are none
	wrongBits   = []int{math.MinInt, -12, -1, 0, 13, 64, 1 << 32, 1<<32 + 1, math.MaxInt} // that no address of any depth has
)

// digits are those of an address, the highest one first.
func digits(depth int, address int) string {
	if depth == 0 {
		return ""
	}
	s := strconv.FormatInt(int64(address), 2)
	return strings.Repeat("0", depth-len(s)) + s
}

// boxOf says it word by word as the document does: of the box of all points the halves that the digits tell.
func boxOf(dim int, depth int, address int) api.Box {
	b := api.Box{Low: make(api.Key, dim), High: slices.Repeat(api.Key{most}, dim)}
	at := 0
	for _, digit := range digits(depth, address) {
		size := (uint64(b.High[at]) - uint64(b.Low[at]) + 1) / 2
		if digit == '0' {
			b.High[at] -= uint32(size)
		} else {
			b.Low[at] += uint32(size)
		}
		if at++; at == dim {
			at = 0
		}
	}
	return b
}

func same(a api.Box, b api.Box) bool {
	return slices.Equal(a.Low, b.Low) && slices.Equal(a.High, b.High)
}

// wrongAddresses are none of a depth.
func wrongAddresses(depth int) []int {
	return []int{math.MinInt, -1 << depth, -1, 1 << depth, 1<<depth + 1, 1 << 13, 1 << 32, math.MaxInt}
}

// Example 1, and others by hand.
func TestBoxByHand(t *testing.T) {
	for _, x := range []struct {
		dim, depth, address int
		low, high           api.Key
	}{
		{2, 2, 2, api.Key{1 << 31, 0}, api.Key{most, 1<<31 - 1}},
		{1, 0, 0, api.Key{0}, api.Key{most}}, {3, 0, 0, api.Key{0, 0, 0}, api.Key{most, most, most}},
		{1, 1, 0, api.Key{0}, api.Key{1<<31 - 1}}, {1, 1, 1, api.Key{1 << 31}, api.Key{most}}, {1, 2, 2, api.Key{1 << 31}, api.Key{3<<30 - 1}}, {1, 2, 1, api.Key{1 << 30}, api.Key{1<<31 - 1}},
		{1, 12, 1<<12 - 1, api.Key{0xfff00000}, api.Key{most}}, {1, 12, 1, api.Key{1 << 20}, api.Key{1<<21 - 1}}, {1, 12, 0, api.Key{0}, api.Key{1<<20 - 1}},
		{2, 3, 5, api.Key{3 << 30, 0}, api.Key{most, 1<<31 - 1}}, {2, 3, 3, api.Key{1 << 30, 1 << 31}, api.Key{1<<31 - 1, most}},
		{6, 5, 1, api.Key{0, 0, 0, 0, 1 << 31, 0}, api.Key{1<<31 - 1, 1<<31 - 1, 1<<31 - 1, 1<<31 - 1, most, most}},
		{6, 7, 65, api.Key{3 << 30, 0, 0, 0, 0, 0}, api.Key{most, 1<<31 - 1, 1<<31 - 1, 1<<31 - 1, 1<<31 - 1, 1<<31 - 1}},
		{5, 12, 1<<12 - 1, api.Key{7 << 29, 7 << 29, 3 << 30, 3 << 30, 3 << 30}, api.Key{most, most, most, most, most}},
	} {
		if b, e := excell.Box(x.dim, x.depth, x.address); !same(b, api.Box{Low: x.low, High: x.high}) || e != api.OK {
			t.Errorf("Box(%d, %d, %d): %v, %d, want %v, %v", x.dim, x.depth, x.address, b, e, x.low, x.high)
		}
	}
}

// P16.1, P16.2, P16.5: the addresses of all depths; the points at the ends of a Box are of its address.
func TestBox(t *testing.T) {
	for dim := 1; dim <= 6; dim++ {
		for depth := range 13 {
			for address := range 1 << depth {
				want := boxOf(dim, depth, address)
				b, e := excell.Box(dim, depth, address)
				if !same(b, want) || e != api.OK {
					t.Fatalf("Box(%d, %d, %d): %v, %d, want %v", dim, depth, address, b, e, want)
				}
				for _, k := range []api.Key{b.Low, b.High} {
					if n, e := excell.Find(k, depth); n != address || e != api.OK {
						t.Fatalf("Find(%v, %d): %d, %d, want %d", k, depth, n, e, address)
					}
				}
			}
		}
	}
}

// P16.1, R3: each for one reason.
func TestBoxRefuses(t *testing.T) {
	refuse := func(dim int, depth int, address int) {
		t.Helper()
		if b, e := excell.Box(dim, depth, address); len(b.Low)+len(b.High) != 0 || e != api.BadRequest {
			t.Errorf("Box(%d, %d, %d): %v, %d", dim, depth, address, b, e)
		}
	}
	for depth := range 13 {
		for _, dim := range wrongDims {
			refuse(dim, depth, 0)
		}
		for dim := 1; dim <= 6; dim++ {
			for _, address := range wrongAddresses(depth) {
				refuse(dim, depth, address)
			}
		}
	}
	for _, depth := range wrongDepths {
		for dim := 1; dim <= 6; dim++ {
			for _, address := range []int{0, 1, -1} {
				refuse(dim, depth, address)
			}
		}
	}
}

// anyPoint is one whose numbers are of any size.
func anyPoint(r *rand.Rand, dim int) api.Key {
	k := make(api.Key, dim)
	for at := range k {
		k[at] = r.Uint32() >> r.Intn(33)
		if r.Intn(2) == 0 {
			k[at] = ^k[at]
		}
	}
	return k
}

// P16.2, P16.5: a point is in the Box of its address, and in no other one.
func TestFind(t *testing.T) {
	r := rand.New(rand.NewSource(1))
	for i := range 3000 {
		dim, depth := 1+i%6, r.Intn(13)
		k := anyPoint(r, dim)
		n, e := excell.Find(k, depth)
		bits, _ := key.Bits(k, depth)
		if n != bits || e != api.OK {
			t.Fatalf("Find(%v, %d): %d, %d, want %d", k, depth, n, e, bits)
		}
		for address := range 1 << min(depth, 6) {
			b, _ := excell.Box(dim, depth, n^address)
			if key.In(k, b) != (address == 0) {
				t.Fatalf("%v is of the address %d; is it in the Box of %d, %v? %t", k, n, n^address, b, address > 0)
			}
		}
	}
}

// P16.2, R3
func TestFindRefuses(t *testing.T) {
	for coordinates := range 9 {
		k := slices.Repeat(api.Key{most}, coordinates)
		depths := wrongDepths
		if coordinates < 1 || coordinates > 6 {
			depths = append([]int{0, 1, 7, 12}, wrongDepths...)
		}
		for _, depth := range depths {
			if n, e := excell.Find(k, depth); n != 0 || e != api.BadRequest {
				t.Errorf("Find(%v, %d): %d, %d", k, depth, n, e)
			}
		}
	}
	if n, e := excell.Find(nil, 0); n != 0 || e != api.BadRequest {
		t.Errorf("Find of nil: %d, %d", n, e)
	}
}

// met are all addresses whose boxes meet one, each one asked.
func met(b api.Box, dim int, depth int) []int {
	var out []int
	for address := range 1 << depth {
		if _, is := key.Meet(boxOf(dim, depth, address), b); is {
			out = append(out, address)
		}
	}
	return out
}

func ranges(t *testing.T, b api.Box, dim int, depth int, want []int) {
	t.Helper()
	if l, e := excell.Range(b, dim, depth); !slices.Equal(l, want) || e != api.OK {
		t.Fatalf("Range(%v, %d, %d): %v, %d, want %v", b, dim, depth, l, e, want)
	}
}

// P16.3: by hand.
func TestRangeByHand(t *testing.T) {
	box := func(low api.Key, high api.Key) api.Box { return api.Box{Low: low, High: high} }
	ranges(t, box(api.Key{0}, api.Key{0}), 1, 3, []int{0})
	ranges(t, box(api.Key{1<<31 - 1}, api.Key{1 << 31}), 1, 3, []int{3, 4})
	ranges(t, box(api.Key{1 << 30, 7}, api.Key{1 << 31, 7}), 2, 2, []int{0, 2})
	ranges(t, box(api.Key{1 << 30, 7}, api.Key{1 << 31, 7}), 2, 3, []int{1, 4})
	ranges(t, box(api.Key{7, 0}, api.Key{7, most}), 2, 4, []int{0, 1, 4, 5})
	ranges(t, box(api.Key{0, 1 << 31, 5}, api.Key{most, 1 << 31, 5}), 3, 3, []int{2, 6})
	ranges(t, box(api.Key{5, 5, 5, 5, 5, 5}, api.Key{5, 5, 5, 5, 5, 5}), 6, 0, []int{0})
	ranges(t, box(api.Key{most, most, most, most, most, most}, api.Key{most, most, most, most, most, most}), 6, 12, []int{4095})
}

// P16.3, P16.5: boxes of any size, at all depths; that of all points has all addresses.
func TestRange(t *testing.T) {
	r := rand.New(rand.NewSource(2))
	for dim := 1; dim <= 6; dim++ {
		for depth := range 13 {
			ranges(t, key.Whole(dim), dim, depth, met(key.Whole(dim), dim, depth))
			if l, _ := excell.Range(key.Whole(dim), dim, depth); len(l) != 1<<depth {
				t.Errorf("%d addresses of depth %d", len(l), depth)
			}
			for range 60 >> max(0, depth-7) {
				b := api.Box{Low: anyPoint(r, dim), High: anyPoint(r, dim)}
				for at := range dim {
					b.Low[at], b.High[at] = min(b.Low[at], b.High[at]), max(b.Low[at], b.High[at])
					if r.Intn(3) == 0 {
						b.High[at] = b.Low[at]
					}
				}
				ranges(t, b, dim, depth, met(b, dim, depth))
			}
		}
	}
}

// P16.3, R3: boxes that may not be, depths that are none.
func TestRangeRefuses(t *testing.T) {
	refuse := func(b api.Box, dim int, depth int) {
		t.Helper()
		if l, e := excell.Range(b, dim, depth); len(l) != 0 || e != api.BadRequest {
			t.Errorf("Range(%v, %d, %d): %v, %d", b, dim, depth, l, e)
		}
	}
	for depth := range 13 {
		for dim := 1; dim <= 6; dim++ {
			b := key.Whole(dim)
			for _, wrong := range []api.Box{{}, {Low: b.Low}, {High: b.High}, {Low: b.High, High: b.Low}, {Low: b.Low[1:], High: b.High}, {Low: b.Low, High: b.High[1:]}, {Low: b.Low[1:], High: b.High[1:]}, {Low: make(api.Key, 7), High: make(api.Key, 7)}} {
				refuse(wrong, dim, depth)
			}
			for at := range dim {
				wrong := key.Whole(dim)
				wrong.Low[at], wrong.High[at] = 1<<31+1, 1<<31
				refuse(wrong, dim, depth)
			}
			for _, n := range append([]int{dim - 1, dim + 1}, wrongDims...) {
				refuse(b, n, depth)
			}
		}
		for _, n := range wrongDims {
			refuse(api.Box{}, n, depth)
			refuse(api.Box{Low: make(api.Key, 7), High: make(api.Key, 7)}, n, depth)
		}
	}
	for _, depth := range wrongDepths {
		for dim := 1; dim <= 6; dim++ {
			refuse(key.Whole(dim), dim, depth)
		}
	}
}

// buddyOf says it word by word as the document does, of the digits.
func buddyOf(depth int, address int, bits int) int {
	turned := []byte(digits(depth, address))
	for i := range turned {
		switch {
		case i == bits-1:
			turned[i] ^= '0' ^ '1'
		case i > bits-1:
			turned[i] = '0'
		}
	}
	n, _ := strconv.ParseInt(string(turned), 2, 64)
	return int(n)
}

// P16.4: by hand.
func TestBuddyByHand(t *testing.T) {
	for _, x := range [][4]int{
		{1, 0, 1, 1}, {1, 1, 1, 0}, {2, 2, 2, 3}, {2, 3, 2, 2}, {2, 3, 1, 0}, {2, 1, 1, 2}, {3, 5, 1, 0}, {3, 5, 2, 6}, {3, 5, 3, 4}, {4, 0b1011, 2, 0b1100}, {4, 0b1011, 3, 0b1000},
		{12, 4095, 1, 0}, {12, 4095, 12, 4094}, {12, 0, 1, 2048}, {12, 0, 12, 1}, {12, 0b101010101010, 6, 0b101011000000},
	} {
		if n, e := excell.Buddy(x[0], x[1], x[2]); n != x[3] || e != api.OK {
			t.Errorf("Buddy(%d, %d, %d): %d, %d, want %d", x[0], x[1], x[2], n, e, x[3])
		}
	}
}

// P16.4: all addresses of all depths.
func TestBuddy(t *testing.T) {
	for depth := range 13 {
		for address := range 1 << depth {
			for bits := 1; bits <= depth; bits++ {
				want := buddyOf(depth, address, bits)
				if n, e := excell.Buddy(depth, address, bits); n != want || e != api.OK {
					t.Fatalf("Buddy(%d, %d, %d): %d, %d, want %d", depth, address, bits, n, e, want)
				}
			}
		}
	}
}

// P16.4, R3: each for one reason.
func TestBuddyRefuses(t *testing.T) {
	refuse := func(depth int, address int, bits int) {
		t.Helper()
		if n, e := excell.Buddy(depth, address, bits); n != 0 || e != api.BadRequest {
			t.Errorf("Buddy(%d, %d, %d): %d, %d", depth, address, bits, n, e)
		}
	}
	for depth := range 13 {
		for _, address := range wrongAddresses(depth) {
			for bits := range 14 {
				refuse(depth, address, bits)
			}
		}
		for _, bits := range append([]int{depth + 1}, wrongBits...) {
			refuse(depth, 0, bits)
			refuse(depth, 1<<depth-1, bits)
		}
	}
	for _, depth := range wrongDepths {
		for bits := range 15 {
			refuse(depth, 0, bits)
			refuse(depth, 1, bits)
		}
	}
}

// P16.5: boxes of one depth are all points: those of the addresses that have one digit more are the halves of one.
func TestBoxesAreAllPoints(t *testing.T) {
	for dim := 1; dim <= 6; dim++ {
		for depth := range 12 {
			for address := range 1 << depth {
				whole, _ := excell.Box(dim, depth, address)
				lower, _ := excell.Box(dim, depth+1, 2*address)
				upper, _ := excell.Box(dim, depth+1, 2*address+1)
				at := depth % dim
				if upper.Low[at] != lower.High[at]+1 {
					t.Fatalf("%v and %v are not one", lower, upper)
				}
				lower.High[at] = upper.High[at]
				if !same(lower, whole) {
					t.Fatalf("%v and %v are not all of %v", lower, upper, whole)
				}
			}
		}
	}
}

// R5, R6: what is handed in is not changed; what is told is new; the same again, it is the same.
func TestNothingIsShared(t *testing.T) {
	for dim := 1; dim <= 6; dim++ {
		for depth := range 13 {
			given := key.Whole(dim)
			given.High[0] = 1<<31 + 5
			l, _ := excell.Range(given, dim, depth)
			want := slices.Clone(l)
			clear(l[:cap(l)])
			ranges(t, given, dim, depth, want)
			if given.High[0] != 1<<31+5 || !slices.Equal(given.Low, make(api.Key, dim)) || !slices.Equal(given.High[1:], key.Whole(dim).High[1:]) {
				t.Errorf("Range has changed its box: %v", given)
			}
			k := slices.Clone(given.High)
			if _, e := excell.Find(k, depth); e != api.OK || !slices.Equal(k, given.High) {
				t.Errorf("Find has changed its point: %v, %d", k, e)
			}
			b, _ := excell.Box(dim, depth, 0)
			for at := range b.Low {
				if b.Low[at] = 7; b.High[at] == 7 {
					t.Errorf("the lists of a Box share their memory")
				}
				b.High[at] = 5
			}
			if b, _ := excell.Box(dim, depth, 0); !same(b, boxOf(dim, depth, 0)) {
				t.Errorf("Box(%d, %d, 0): %v", dim, depth, b)
			}
		}
	}
}
