package key_test

import (
	"math"
	"math/rand"
	"slices"
	"testing"

	"cadastre/api"
	"cadastre/key"
)

const most = math.MaxUint32

// wrongDims are numbers of coordinates that no point may have.
var wrongDims = []int{math.MinInt, -6, -1, 0, 7, 8, 100, 1<<32 + 1, math.MaxInt}

// every are all points of so many coordinates, each of them one of these.
func every(dim int, of ...uint32) []api.Key {
	out := []api.Key{{}}
	for range dim {
		var longer []api.Key
		for _, k := range out {
			for _, c := range of {
				longer = append(longer, append(slices.Clone(k), c))
			}
		}
		out = longer
	}
	return out
}

// points are some of all lengths, those that no point may have, too.
func points() []api.Key {
	out := []api.Key{nil, {}}
	for dim := 1; dim <= 3; dim++ {
		out = append(out, every(dim, 0, 1, most)...)
	}
	for dim := 4; dim <= 8; dim++ {
		low := make(api.Key, dim)
		out = append(out, low)
		for at := range dim {
			k := slices.Clone(low)
			k[at] = 5
			out = append(out, k)
		}
	}
	return out
}

// compared says it word by word as the document does.
func compared(a api.Key, b api.Key) int {
	for i := 0; i < len(a) && i < len(b); i++ {
		if a[i] != b[i] {
			if a[i] < b[i] {
				return -1
			}
			return 1
		}
	}
	switch {
	case len(a) < len(b):
		return -1
	case len(a) > len(b):
		return 1
	}
	return 0
}

// P8.1
func TestCompare(t *testing.T) {
	for _, a := range points() {
		for _, b := range points() {
			if n := key.Compare(a, b); n != compared(a, b) {
				t.Errorf("Compare(%v, %v): %d", a, b, n)
			}
		}
	}
}

// P8.1: by hand, so that the test's own way of comparing is seen to be right.
func TestCompareByHand(t *testing.T) {
	for _, x := range []struct {
		a, b api.Key
		want int
	}{
		{nil, nil, 0}, {nil, api.Key{}, 0}, {nil, api.Key{0}, -1}, {api.Key{0}, nil, 1},
		{api.Key{1}, api.Key{2}, -1}, {api.Key{2}, api.Key{1}, 1}, {api.Key{2}, api.Key{2}, 0},
		{api.Key{1, 9}, api.Key{2, 0}, -1}, {api.Key{1, 2}, api.Key{1, 1}, 1}, {api.Key{1, 2, 3}, api.Key{1, 2, 3}, 0},
		{api.Key{1}, api.Key{1, 0}, -1}, {api.Key{1, 0}, api.Key{1}, 1}, {api.Key{2}, api.Key{1, 9, 9}, 1}, {api.Key{1, 9, 9}, api.Key{2}, -1},
		{api.Key{0}, api.Key{most}, -1}, {api.Key{1 << 31}, api.Key{1<<31 - 1}, 1}, {api.Key{most}, api.Key{0}, 1},
		{api.Key{1, 2, 3, 4, 5, 6, 7, 8}, api.Key{1, 2, 3, 4, 5, 6, 7, 9}, -1},
	} {
		if n := key.Compare(x.a, x.b); n != x.want {
			t.Errorf("Compare(%v, %v): %d, want %d", x.a, x.b, n, x.want)
		}
	}
}

// P8.5: it is an order.
func TestCompareIsAnOrder(t *testing.T) {
	var l []api.Key
	for dim := range 4 {
		l = append(l, every(dim, 0, 7, most)...)
	}
	for _, a := range l {
		for _, b := range l {
			n := key.Compare(a, b)
			if n != -key.Compare(b, a) || (n == 0) != slices.Equal(a, b) {
				t.Fatalf("Compare(%v, %v): %d, the other way round %d", a, b, n, key.Compare(b, a))
			}
			for _, c := range l {
				if n <= 0 && key.Compare(b, c) <= 0 && key.Compare(a, c) > 0 {
					t.Fatalf("%v, %v, %v do not rise", a, b, c)
				}
			}
		}
	}
}

// P8.1
func TestCheck(t *testing.T) {
	for _, k := range points() {
		for dim := -2; dim <= 10; dim++ {
			want := api.BadRequest
			if dim >= 1 && dim <= 6 && len(k) == dim {
				want = api.OK
			}
			if e := key.Check(k, dim); e != want {
				t.Errorf("Check(%v, %d): %d, want %d", k, dim, e, want)
			}
		}
		for _, dim := range wrongDims {
			if e := key.Check(k, dim); e != api.BadRequest {
				t.Errorf("Check(%v, %d): %d", k, dim, e)
			}
		}
	}
}

// boxes are all of so many coordinates with ends of these, those that may not be, too.
func boxes(dim int, of ...uint32) []api.Box {
	var out []api.Box
	for _, low := range every(dim, of...) {
		for _, high := range every(dim, of...) {
			out = append(out, api.Box{Low: low, High: high})
		}
	}
	return out
}

// right is whether no coordinate of Low is above that of High.
func right(b api.Box) bool {
	for i := range b.Low {
		if b.Low[i] > b.High[i] {
			return false
		}
	}
	return true
}

// P8.1
func TestCheckBox(t *testing.T) {
	for dim := 1; dim <= 3; dim++ {
		for _, b := range boxes(dim, 0, 5, most) {
			want := api.BadRequest
			if right(b) {
				want = api.OK
			}
			if e := key.CheckBox(b, dim); e != want {
				t.Errorf("CheckBox(%v, %d): %d, want %d", b, dim, e, want)
			}
			for _, wrong := range append([]int{dim - 1, dim + 1}, wrongDims...) {
				if e := key.CheckBox(b, wrong); e != api.BadRequest {
					t.Errorf("CheckBox(%v, %d): %d", b, wrong, e)
				}
			}
		}
	}
}

// P8.1: of ends with any number of coordinates.
func TestCheckBoxOfOtherEnds(t *testing.T) {
	for low := range 9 {
		for high := range 9 {
			b := api.Box{Low: make(api.Key, low), High: make(api.Key, high)}
			for dim := -1; dim < 10; dim++ {
				want := api.BadRequest
				if low == dim && high == dim && dim >= 1 && dim <= 6 {
					want = api.OK
				}
				if e := key.CheckBox(b, dim); e != want {
					t.Errorf("CheckBox of %d and %d coordinates, %d: %d, want %d", low, high, dim, e, want)
				}
			}
		}
	}
	for dim := 1; dim <= 6; dim++ {
		for at := range dim { // just one coordinate is wrong
			b := api.Box{Low: make(api.Key, dim), High: make(api.Key, dim)}
			b.Low[at] = 1
			if e := key.CheckBox(b, dim); e != api.BadRequest {
				t.Errorf("CheckBox(%v, %d): %d", b, dim, e)
			}
		}
	}
}

// inside says it word by word as the document does.
func inside(k api.Key, b api.Box) bool {
	if len(k) != len(b.Low) || len(k) != len(b.High) {
		return false
	}
	for i := range k {
		if k[i] < b.Low[i] || k[i] > b.High[i] {
			return false
		}
	}
	return true
}

// P8.2
func TestIn(t *testing.T) {
	for dim := 1; dim <= 2; dim++ {
		for _, b := range boxes(dim, 0, 3, 5, most) {
			for _, k := range every(dim, 0, 1, 2, 3, 4, 5, 6, most-1, most) {
				if in := key.In(k, b); in != inside(k, b) {
					t.Errorf("In(%v, %v): %v", k, b, in)
				}
			}
		}
	}
}

// P8.2: by hand, so that the test's own way is seen to be right.
func TestInByHand(t *testing.T) {
	b := api.Box{Low: api.Key{3, 10}, High: api.Key{5, 10}}
	for _, x := range []struct {
		k    api.Key
		want bool
	}{
		{api.Key{3, 10}, true}, {api.Key{4, 10}, true}, {api.Key{5, 10}, true}, {api.Key{2, 10}, false}, {api.Key{6, 10}, false},
		{api.Key{4, 9}, false}, {api.Key{4, 11}, false}, {api.Key{4}, false}, {api.Key{4, 10, 0}, false}, {nil, false},
	} {
		if in := key.In(x.k, b); in != x.want {
			t.Errorf("In(%v, %v): %v", x.k, b, in)
		}
	}
	if key.In(api.Key{4}, api.Box{Low: api.Key{5}, High: api.Key{3}}) {
		t.Error("a point is in a box without points")
	}
}

// P8.2: of any number of coordinates.
func TestInOfOtherEnds(t *testing.T) {
	for k := range 9 {
		for low := range 9 {
			for high := range 9 {
				b := api.Box{Low: make(api.Key, low), High: make(api.Key, high)}
				if in := key.In(make(api.Key, k), b); in != (k == low && k == high) {
					t.Errorf("In of %d coordinates, and %d and %d: %v", k, low, high, in)
				}
			}
		}
	}
}

// meets expects of Meet that box.
func meets(t *testing.T, a api.Box, b api.Box, want api.Box) {
	t.Helper()
	m, ok := key.Meet(a, b)
	if !ok || !slices.Equal(m.Low, want.Low) || !slices.Equal(m.High, want.High) {
		t.Errorf("Meet(%v, %v): %v, %v, want %v", a, b, m, ok, want)
	}
}

// apart expects of Meet an empty box.
func apart(t *testing.T, a api.Box, b api.Box) {
	t.Helper()
	if m, ok := key.Meet(a, b); ok || len(m.Low) != 0 || len(m.High) != 0 {
		t.Errorf("Meet(%v, %v): %v, %v, want none", a, b, m, ok)
	}
}

// P8.2, P8.5
func TestMeet(t *testing.T) {
	for dim := 1; dim <= 2; dim++ {
		all := every(dim, 0, 1, 2, most)
		for _, a := range boxes(dim, 0, 1, most) {
			for _, b := range boxes(dim, 0, 1, 2) {
				m, ok := key.Meet(a, b)
				if !ok {
					apart(t, a, b)
				} else if key.CheckBox(m, dim) != api.OK {
					t.Fatalf("Meet(%v, %v): %v", a, b, m)
				}
				some := false
				for _, k := range all {
					both := key.In(k, a) && key.In(k, b)
					some = some || both
					if key.In(k, m) != both {
						t.Fatalf("Meet(%v, %v): %v, and %v", a, b, m, k)
					}
				}
				if ok != some {
					t.Fatalf("Meet(%v, %v): %v", a, b, ok)
				}
			}
		}
	}
}

// P8.2
func TestMeetByHand(t *testing.T) {
	box := func(low api.Key, high api.Key) api.Box { return api.Box{Low: low, High: high} }
	meets(t, box(api.Key{0}, api.Key{9}), box(api.Key{5}, api.Key{most}), box(api.Key{5}, api.Key{9}))
	meets(t, box(api.Key{5}, api.Key{most}), box(api.Key{0}, api.Key{9}), box(api.Key{5}, api.Key{9}))
	meets(t, box(api.Key{0}, api.Key{5}), box(api.Key{5}, api.Key{9}), box(api.Key{5}, api.Key{5}))
	meets(t, box(api.Key{0}, api.Key{9}), box(api.Key{3}, api.Key{4}), box(api.Key{3}, api.Key{4}))
	meets(t, box(api.Key{0, 7}, api.Key{5, 8}), box(api.Key{2, 0}, api.Key{9, 7}), box(api.Key{2, 7}, api.Key{5, 7}))
	meets(t, box(api.Key{0, 1 << 31}, api.Key{1 << 31, most}), box(api.Key{1, 1}, api.Key{most, most}), box(api.Key{1, 1 << 31}, api.Key{1 << 31, most}))
	apart(t, box(api.Key{0}, api.Key{4}), box(api.Key{5}, api.Key{9}))
	apart(t, box(api.Key{0, 0}, api.Key{4, 9}), box(api.Key{0, 10}, api.Key{4, 20}))
	apart(t, box(api.Key{0, 0}, api.Key{4, 9}), box(api.Key{5, 0}, api.Key{6, 9}))
	apart(t, box(api.Key{7}, api.Key{3}), box(api.Key{0}, api.Key{9}))
	apart(t, box(api.Key{7}, api.Key{3}), box(api.Key{7}, api.Key{3}))
}

// P8.2: of any numbers of coordinates.
func TestMeetOfOtherEnds(t *testing.T) {
	for n := range 9 * 9 * 9 * 9 {
		var ends [4]api.Key
		for i := range ends {
			ends[i] = make(api.Key, n%9)
			n /= 9
		}
		a, b := api.Box{Low: ends[0], High: ends[1]}, api.Box{Low: ends[2], High: ends[3]}
		dim := len(ends[0])
		if dim == len(ends[1]) && dim == len(ends[2]) && dim == len(ends[3]) && dim >= 1 && dim <= 6 {
			meets(t, a, b, a)
		} else {
			apart(t, a, b)
		}
	}
	apart(t, api.Box{}, api.Box{})
}

// P8.3
func TestWhole(t *testing.T) {
	for dim := 1; dim <= 6; dim++ {
		b := key.Whole(dim)
		if len(b.Low) != dim || len(b.High) != dim {
			t.Fatalf("Whole(%d): %v", dim, b)
		}
		for i := range dim {
			if b.Low[i] != 0 || b.High[i] != most {
				t.Errorf("Whole(%d): %v", dim, b)
			}
		}
	}
	for _, dim := range wrongDims {
		if b := key.Whole(dim); len(b.Low) != 0 || len(b.High) != 0 {
			t.Errorf("Whole(%d): %v", dim, b)
		}
	}
}

// picks are all rising lists of coordinates of dim.
func picks(dim int) [][]int {
	var out [][]int
	for set := range 1 << dim {
		var at []int
		for i := range dim {
			if set>>i&1 == 1 {
				at = append(at, i)
			}
		}
		out = append(out, at)
	}
	return out
}

// P8.3
func TestPartial(t *testing.T) {
	for dim := 1; dim <= 6; dim++ {
		for _, at := range picks(dim) {
			k := api.Key{0, 1, 1 << 31, most, 258, 7}[6-len(at):]
			want := key.Whole(dim)
			for i, c := range at {
				want.Low[c], want.High[c] = k[i], k[i]
			}
			b, e := key.Partial(dim, at, k)
			if e != api.OK || !slices.Equal(b.Low, want.Low) || !slices.Equal(b.High, want.High) || key.CheckBox(b, dim) != api.OK {
				t.Errorf("Partial(%d, %v, %v): %v, %d, want %v", dim, at, k, b, e, want)
			}
		}
	}
}

// P8.3: by hand.
func TestPartialByHand(t *testing.T) {
	b, e := key.Partial(3, []int{0, 2}, api.Key{5, 0})
	if e != api.OK || !slices.Equal(b.Low, api.Key{5, 0, 0}) || !slices.Equal(b.High, api.Key{5, most, 0}) {
		t.Errorf("Partial: %v, %d", b, e)
	}
	b, e = key.Partial(2, []int{}, api.Key{})
	if e != api.OK || !slices.Equal(b.Low, api.Key{0, 0}) || !slices.Equal(b.High, api.Key{most, most}) {
		t.Errorf("Partial of nothing: %v, %d", b, e)
	}
}

// P8.3, R3
func TestPartialRefuses(t *testing.T) {
	refuse := func(dim int, at []int, k api.Key) {
		t.Helper()
		if b, e := key.Partial(dim, at, k); e != api.BadRequest || b.Low != nil || b.High != nil {
			t.Errorf("Partial(%d, %v, %v): %v, %d", dim, at, k, b, e)
		}
	}
	for _, dim := range wrongDims {
		refuse(dim, nil, nil)
		refuse(dim, []int{0}, api.Key{0})
	}
	for dim := 1; dim <= 6; dim++ {
		for _, at := range picks(dim) {
			refuse(dim, at, make(api.Key, len(at)+1))
			if len(at) > 0 {
				refuse(dim, at, make(api.Key, len(at)-1))
				refuse(dim, at, nil)
				refuse(dim, nil, make(api.Key, len(at)))
			}
		}
		for _, c := range []int{math.MinInt, -1, dim, dim + 1, 6, 7, 1 << 32, math.MaxInt} {
			refuse(dim, []int{c}, api.Key{5})
			refuse(dim, []int{0, c}, api.Key{5, 5})
			refuse(dim, []int{c, dim - 1}, api.Key{5, 5})
		}
	}
	for _, at := range [][]int{{0, 0}, {2, 2}, {1, 0}, {2, 1}, {0, 1, 1}, {0, 2, 1}, {1, 0, 2}, {2, 1, 0}, {0, 1, 2, 2}, {0, 1, 2, 0}, {0, 1, 2, 3}} {
		refuse(3, at, make(api.Key, len(at)))
	}
	refuse(6, make([]int, 1000), make(api.Key, 1000))
}

// bits says it word by word as the document does.
func bits(k api.Key, n int) int {
	var digits []uint32
	for turn := range 32 {
		for _, c := range k {
			digits = append(digits, c<<turn>>31)
		}
	}
	out := 0
	for _, d := range digits[:n] {
		out = 2*out + int(d)
	}
	return out
}

// P8.4
func TestBits(t *testing.T) {
	r := rand.New(rand.NewSource(1))
	for dim := 1; dim <= 6; dim++ {
		for range 200 {
			k := make(api.Key, dim)
			for i := range k {
				k[i] = r.Uint32()
			}
			for n := 0; n <= 30; n++ {
				if have, e := key.Bits(k, n); have != bits(k, n) || e != api.OK {
					t.Fatalf("Bits(%x, %d): %b, %d, want %b", k, n, have, e, bits(k, n))
				}
			}
		}
	}
}

// P8.4: by hand, so that the test's own way is seen to be right.
func TestBitsByHand(t *testing.T) {
	for _, x := range []struct {
		k    api.Key
		n    int
		want int
	}{
		{api.Key{0x80000000, 0x40000000}, 4, 0b1001}, {api.Key{0x80000000, 0x40000000}, 3, 0b100}, {api.Key{0x80000000, 0x40000000}, 0, 0},
		{api.Key{most}, 30, 1<<30 - 1}, {api.Key{3}, 30, 0}, {api.Key{4}, 30, 1}, {api.Key{0xa0000000}, 3, 0b101},
		{api.Key{0x80000000, 0, 0x80000000}, 6, 0b101000}, {api.Key{0, 0, 0, 0, 0, 1 << 31}, 6, 1}, {api.Key{0, 0, 0, 0, 0, 1 << 31}, 5, 0},
		{api.Key{0, 0, 0, 0, 0, 1 << 27}, 30, 1}, {api.Key{1 << 26, 0, 0, 0, 0, 1 << 26}, 30, 0}, {api.Key{most, 0}, 6, 0b101010}, {api.Key{0, most}, 30, 0b010101010101010101010101010101},
	} {
		if have, e := key.Bits(x.k, x.n); have != x.want || e != api.OK {
			t.Errorf("Bits(%x, %d): %b, %d, want %b", x.k, x.n, have, e, x.want)
		}
	}
}

// P8.4, R3
func TestBitsRefuses(t *testing.T) {
	refuse := func(k api.Key, n int) {
		t.Helper()
		if have, e := key.Bits(k, n); have != 0 || e != api.BadRequest {
			t.Errorf("Bits(%x, %d): %b, %d", k, n, have, e)
		}
	}
	for n := -1; n <= 31; n++ {
		for _, dim := range []int{0, 7, 8, 33} {
			k := make(api.Key, dim)
			for i := range k {
				k[i] = most
			}
			refuse(k, n)
		}
		refuse(nil, n)
	}
	for dim := 1; dim <= 6; dim++ {
		for _, n := range []int{math.MinInt, -31, -1, 31, 32, 33, 64, 192, 193, 1 << 32, math.MaxInt} {
			refuse(slices.Repeat(api.Key{most}, dim), n)
		}
	}
}

// P8.5: of fewer bits the number is that of more, without the last ones.
func TestFewerBits(t *testing.T) {
	for _, k := range []api.Key{{0xdeadbeef}, {0x12345678, 0x9abcdef0}, {1, most, 0x55555555}, {0xdeadbeef, 5, 0xaaaaaaaa, 7, most, 0}} {
		all, _ := key.Bits(k, 30)
		for n := range 31 {
			if have, _ := key.Bits(k, n); have != all>>(30-n) {
				t.Errorf("Bits(%x, %d): %b, of all %b", k, n, have, all)
			}
		}
	}
}

// R5: what is handed in is not changed, its spare room neither; what is answered is new.
func TestMeetIsNew(t *testing.T) {
	room := make(api.Key, 40)
	for i := range room {
		room[i] = uint32(i)
	}
	before := slices.Clone(room)
	a := api.Box{Low: room[0:3], High: room[10:13]}
	b := api.Box{Low: room[20:23], High: room[30:33]}
	c := api.Box{Low: room[1:4], High: room[9:12]}
	apart(t, a, b)
	m, ok := key.Meet(a, c)
	if !ok || !slices.Equal(m.Low, api.Key{1, 2, 3}) || !slices.Equal(m.High, api.Key{9, 10, 11}) {
		t.Fatalf("Meet: %v, %v", m, ok)
	}
	alone(t, m)
	if !slices.Equal(room, before) {
		t.Errorf("Meet, or what it told, has changed what was handed in: %v", room)
	}
}

// alone changes all of a box: neither of its ends is seen in the other one.
func alone(t *testing.T, b api.Box) {
	t.Helper()
	high := slices.Clone(b.High)
	for i := range b.Low[:cap(b.Low)] {
		b.Low[:cap(b.Low)][i] = 77
	}
	if !slices.Equal(b.High, high) {
		t.Errorf("the two ends of a box share their memory: %v", b)
	}
	for i := range b.High[:cap(b.High)] {
		b.High[:cap(b.High)][i] = 88
	}
}

// R5, R6
func TestBoxesAreNew(t *testing.T) {
	for dim := 1; dim <= 6; dim++ {
		at, k := []int{0, 1, 2, 3, 4, 5}[:dim], api.Key{1, 2, 3, 4, 5, 6}[:dim]
		for range 3 {
			b := key.Whole(dim)
			if !slices.Equal(b.Low, make(api.Key, dim)) || !slices.Equal(b.High, slices.Repeat(api.Key{most}, dim)) {
				t.Errorf("Whole(%d): %v", dim, b)
			}
			alone(t, b)
			b, e := key.Partial(dim, at, k)
			if e != api.OK || !slices.Equal(b.Low, k) || !slices.Equal(b.High, k) {
				t.Errorf("Partial(%d, %v, %v): %v, %d", dim, at, k, b, e)
			}
			alone(t, b)
		}
		if !slices.Equal(at, []int{0, 1, 2, 3, 4, 5}[:dim]) || !slices.Equal(k[:6], api.Key{1, 2, 3, 4, 5, 6}) {
			t.Errorf("Partial has changed what was handed in: %v, %v", at, k[:6])
		}
	}
}

// R5: the others change nothing either.
func TestNothingIsChanged(t *testing.T) {
	k := api.Key{9, 8, 7, 6}[:3]
	b := api.Box{Low: api.Key{1, 2, 3}, High: api.Key{10, 11, 12}}
	key.Compare(k, b.Low)
	key.Check(k, 3)
	key.In(k, b)
	key.CheckBox(b, 3)
	key.Bits(k, 9)
	if !slices.Equal(k[:4], api.Key{9, 8, 7, 6}) || !slices.Equal(b.Low, api.Key{1, 2, 3}) || !slices.Equal(b.High, api.Key{10, 11, 12}) {
		t.Errorf("%v, %v", k[:4], b)
	}
}
