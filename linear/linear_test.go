package linear_test

import (
	"math"
	"math/rand"
	"slices"
	"testing"

	"cadastre/api"
	"cadastre/excell"
	"cadastre/key"
	"cadastre/linear"
)

const (
	most = math.MaxUint32
	half = 1 << 31 // the first number whose highest bit is 1
)

// pair is a level, and how many of its cells are split.
type pair struct{ level, next int }

// wrongPairs are such that may not be, each for one reason.
func wrongPairs() []pair {
	var out []pair
	for _, level := range []int{math.MinInt, -64, -10, -1, 11, 12, 13, 63, 64, 1 << 32, 1<<32 + 3, math.MaxInt} {
		out = append(out, pair{level, 0}, pair{level, 1})
	}
	for level := range 11 {
		for _, next := range []int{math.MinInt, -1 << level, -1, 1 << level, 1<<level + 1, 1 << 11, 1 << 32, math.MaxInt} {
			out = append(out, pair{level, next})
		}
	}
	return append(out, pair{-1, -1}, pair{11, 1 << 11})
}

// ends are pairs of all levels: all of the first ones, and of the greater ones those at both ends, in the midst, and some of any.
func ends(r *rand.Rand) []pair {
	var out []pair
	for level := range 11 {
		if level < 5 {
			for next := range 1 << level {
				out = append(out, pair{level, next})
			}
			continue
		}
		for _, next := range []int{0, 1, 2, 1<<(level-1) - 1, 1 << (level - 1), 1<<level - 2, 1<<level - 1, r.Intn(1 << level)} {
			out = append(out, pair{level, next})
		}
	}
	return out
}

// cell is one of a depth.
type cell struct{ depth, address int }

// cells are those of the chains, word by word as the document lists them.
func cells(p pair) []cell {
	var out []cell
	for address := range 1 << p.level {
		if address < p.next {
			out = append(out, cell{p.level + 1, 2 * address}, cell{p.level + 1, 2*address + 1})
		} else {
			out = append(out, cell{p.level, address})
		}
	}
	return out
}

func (c cell) box(dim int) api.Box {
	b, _ := excell.Box(dim, c.depth, c.address)
	return b
}

func boxes(dim int, p pair) []api.Box {
	var out []api.Box
	for _, c := range cells(p) {
		out = append(out, c.box(dim))
	}
	return out
}

func same(a api.Box, b api.Box) bool {
	return slices.Equal(a.Low, b.Low) && slices.Equal(a.High, b.High)
}

// P18.1: all levels, each next of them; example 1.
func TestCount(t *testing.T) {
	for level := range 11 {
		for next := range 1 << level {
			if n, e := linear.Count(level, next); n != 1<<level+next || e != api.OK {
				t.Fatalf("Count(%d, %d): %d, %d", level, next, n, e)
			}
		}
	}
	for _, x := range [][3]int{{0, 0, 1}, {1, 0, 2}, {1, 1, 3}, {2, 3, 7}, {10, 0, 1024}, {10, 1023, 2047}} {
		if n, e := linear.Count(x[0], x[1]); n != x[2] || e != api.OK {
			t.Errorf("Count(%d, %d): %d, %d, want %d", x[0], x[1], n, e, x[2])
		}
	}
}

// P18.1, R3
func TestCountRefuses(t *testing.T) {
	for _, p := range wrongPairs() {
		if n, e := linear.Count(p.level, p.next); n != 0 || e != api.BadRequest {
			t.Errorf("Count(%d, %d): %d, %d", p.level, p.next, n, e)
		}
	}
}

// Example 1, and others by hand.
func TestByHand(t *testing.T) {
	for _, x := range []struct {
		p         pair
		chain     int
		low, high api.Key
	}{
		{pair{1, 1}, 0, api.Key{0, 0}, api.Key{half - 1, half - 1}}, {pair{1, 1}, 1, api.Key{0, half}, api.Key{half - 1, most}}, {pair{1, 1}, 2, api.Key{half, 0}, api.Key{most, most}},
		{pair{0, 0}, 0, api.Key{0}, api.Key{most}}, {pair{1, 0}, 1, api.Key{half}, api.Key{most}}, {pair{2, 3}, 5, api.Key{half + 1<<29}, api.Key{half + 1<<30 - 1}}, {pair{2, 3}, 6, api.Key{half + 1<<30}, api.Key{most}},
		{pair{10, 1023}, 2045, api.Key{most - 1<<22 - 1<<21 + 1}, api.Key{most - 1<<22}}, {pair{10, 1023}, 2046, api.Key{most - 1<<22 + 1}, api.Key{most}}, {pair{10, 1}, 2, api.Key{1 << 22}, api.Key{1<<23 - 1}},
		{pair{3, 0}, 6, api.Key{half, half, 0}, api.Key{most, most, half - 1}}, {pair{3, 7}, 13, api.Key{half + 1<<30, half, 0}, api.Key{most, most, half - 1}},
	} {
		for _, k := range []api.Key{x.low, x.high} {
			if n, e := linear.Find(k, x.p.level, x.p.next); n != x.chain || e != api.OK {
				t.Errorf("Find(%v, %v): %d, %d, want %d", k, x.p, n, e, x.chain)
			}
		}
		b, e := linear.Box(len(x.low), x.p.level, x.p.next, x.chain)
		if !same(b, api.Box{Low: x.low, High: x.high}) || e != api.OK {
			t.Errorf("Box(%d, %v, %d): %v, %d, want %v, %v", len(x.low), x.p, x.chain, b, e, x.low, x.high)
		}
	}
}

// P18.2, P18.4: the box of any chain; the points at its ends are of that chain.
func TestBox(t *testing.T) {
	r := rand.New(rand.NewSource(1))
	for _, p := range ends(r) {
		for dim := 1; dim <= 6; dim++ {
			for chain, want := range boxes(dim, p) {
				b, e := linear.Box(dim, p.level, p.next, chain)
				if !same(b, want) || e != api.OK {
					t.Fatalf("Box(%d, %v, %d): %v, %d, want %v", dim, p, chain, b, e, want)
				}
				for _, k := range []api.Key{want.Low, want.High} {
					if n, e := linear.Find(k, p.level, p.next); n != chain || e != api.OK {
						t.Fatalf("Find(%v, %v): %d, %d, want %d", k, p, n, e, chain)
					}
				}
			}
		}
	}
}

// P18.2, R3: each for one reason.
func TestBoxRefuses(t *testing.T) {
	refuse := func(dim int, p pair, chain int) {
		t.Helper()
		if b, e := linear.Box(dim, p.level, p.next, chain); len(b.Low)+len(b.High) != 0 || e != api.BadRequest {
			t.Errorf("Box(%d, %v, %d): %v, %d", dim, p, chain, b, e)
		}
	}
	for _, p := range ends(rand.New(rand.NewSource(2))) {
		n := len(cells(p))
		for _, chain := range []int{math.MinInt, -n, -1, n, n + 1, 4096, 1 << 32, math.MaxInt} {
			for dim := 1; dim <= 6; dim++ {
				refuse(dim, p, chain)
			}
		}
		for _, dim := range []int{math.MinInt, -1, 0, 7, 8, 1<<32 + 1, math.MaxInt} {
			refuse(dim, p, 0)
			refuse(dim, p, n-1)
		}
	}
	for _, p := range wrongPairs() {
		for _, chain := range []int{-1, 0, 1} {
			refuse(1, p, chain)
			refuse(6, p, chain)
		}
	}
}

// anyPoint is one whose numbers are of any size.
func anyPoint(r *rand.Rand, dim int) api.Key {
	k := make(api.Key, dim)
	for at := range k {
		k[at] = r.Uint32() >> r.Intn(33)
		if r.Intn(2) == 0 {
			k[at] = ^k[at]
		}
	}
	return k
}

// P18.2, P18.4: a point is in its chain's box, and in that of no other one.
func TestFind(t *testing.T) {
	r := rand.New(rand.NewSource(3))
	for _, p := range ends(r) {
		for dim := 1; dim <= 6; dim++ {
			l := boxes(dim, p)
			for range 20 {
				k := anyPoint(r, dim)
				n, e := linear.Find(k, p.level, p.next)
				if e != api.OK {
					t.Fatalf("Find(%v, %v): %d", k, p, e)
				}
				for chain, b := range l {
					if key.In(k, b) != (chain == n) {
						t.Fatalf("Find(%v, %v): %d; is it in the Box of %d, %v? %t", k, p, n, chain, b, chain != n)
					}
				}
			}
		}
	}
}

// P18.2, R3: levels and points that may not be.
func TestFindRefuses(t *testing.T) {
	refuse := func(k api.Key, p pair) {
		t.Helper()
		if n, e := linear.Find(k, p.level, p.next); n != 0 || e != api.BadRequest {
			t.Errorf("Find(%v, %v): %d, %d", k, p, n, e)
		}
	}
	for _, p := range wrongPairs() {
		for coordinates := range 9 {
			refuse(slices.Repeat(api.Key{most}, coordinates), p)
		}
		refuse(api.Key{0}, p)
	}
	for _, p := range ends(rand.New(rand.NewSource(4))) {
		for _, coordinates := range []int{0, 7, 8, 100} {
			refuse(make(api.Key, coordinates), p)
			refuse(slices.Repeat(api.Key{most}, coordinates), p)
		}
		refuse(nil, p)
	}
}

// P18.4: chains are in the points' order: by their addresses, of as many digits as there may be.
func TestChainsAreInOrder(t *testing.T) {
	r := rand.New(rand.NewSource(5))
	for _, p := range ends(r) {
		for dim := 1; dim <= 6; dim++ {
			var l []api.Key
			for range 30 {
				l = append(l, anyPoint(r, dim))
			}
			slices.SortFunc(l, func(a api.Key, b api.Key) int {
				x, _ := key.Bits(a, 12)
				y, _ := key.Bits(b, 12)
				return x - y
			})
			before := 0
			for _, k := range l {
				n, _ := linear.Find(k, p.level, p.next)
				if n < before {
					t.Fatalf("Find(%v, %v): %d, of a point ahead of it %d", k, p, n, before)
				}
				before = n
			}
		}
	}
}

// ranges expects of Range all chains whose boxes meet one, each one asked.
func ranges(t *testing.T, b api.Box, p pair, l []api.Box) {
	t.Helper()
	var want []int
	for chain, box := range l {
		if _, met := key.Meet(box, b); met {
			want = append(want, chain)
		}
	}
	if have, e := linear.Range(b, p.level, p.next); !slices.Equal(have, want) || e != api.OK {
		t.Fatalf("Range(%v, %v): %v, %d, want %v", b, p, have, e, want)
	}
}

// P18.2, P18.4: boxes of any size, of one point, of all points.
func TestRange(t *testing.T) {
	r := rand.New(rand.NewSource(6))
	for _, p := range ends(r) {
		for dim := 1; dim <= 6; dim++ {
			l := boxes(dim, p)
			ranges(t, key.Whole(dim), p, l)
			if have, _ := linear.Range(key.Whole(dim), p.level, p.next); len(have) != 1<<p.level+p.next {
				t.Errorf("%d chains of %v", len(have), p)
			}
			for i := range 12 {
				b := api.Box{Low: anyPoint(r, dim), High: anyPoint(r, dim)}
				for at := range dim {
					b.Low[at], b.High[at] = min(b.Low[at], b.High[at]), max(b.Low[at], b.High[at])
					if i < 4 || r.Intn(3) == 0 {
						b.High[at] = b.Low[at]
					}
				}
				ranges(t, b, p, l)
				if i < 4 {
					n, _ := linear.Find(b.Low, p.level, p.next)
					if have, _ := linear.Range(b, p.level, p.next); !slices.Equal(have, []int{n}) {
						t.Errorf("Range of the point %v, %v: %v, want %d", b.Low, p, have, n)
					}
				}
			}
			// the chain's own box, and one number more at each of its ends
			b := cells(p)[r.Intn(len(l))].box(dim)
			ranges(t, b, p, l)
			for at := range dim {
				b.Low[at] -= min(b.Low[at], 1)
				b.High[at] += min(most-b.High[at], 1)
			}
			ranges(t, b, p, l)
		}
	}
}

// P18.2, R3: boxes and levels that may not be.
func TestRangeRefuses(t *testing.T) {
	refuse := func(b api.Box, p pair) {
		t.Helper()
		if l, e := linear.Range(b, p.level, p.next); len(l) != 0 || e != api.BadRequest {
			t.Errorf("Range(%v, %v): %v, %d", b, p, l, e)
		}
	}
	for _, p := range ends(rand.New(rand.NewSource(7))) {
		for dim := 1; dim <= 6; dim++ {
			b := key.Whole(dim)
			for _, wrong := range []api.Box{{}, {Low: b.Low}, {High: b.High}, {Low: b.High, High: b.Low}, {Low: b.Low[1:], High: b.High}, {Low: b.Low, High: b.High[1:]}, {Low: b.Low, High: append(b.High, most)}, {Low: make(api.Key, 7), High: make(api.Key, 7)}, {Low: api.Key{}, High: api.Key{}}} {
				refuse(wrong, p)
			}
			for at := range dim {
				wrong := key.Whole(dim)
				wrong.Low[at], wrong.High[at] = half+1, half
				refuse(wrong, p)
			}
		}
	}
	for _, p := range wrongPairs() {
		refuse(api.Box{}, p)
		for dim := 1; dim <= 6; dim++ {
			refuse(key.Whole(dim), p)
			refuse(api.Box{Low: make(api.Key, dim), High: make(api.Key, dim)}, p)
		}
	}
}

// P18.3: Grow and Shrink by hand.
func TestGrowByHand(t *testing.T) {
	for _, x := range []struct {
		from, to pair
		chain    int
	}{
		{pair{0, 0}, pair{1, 0}, 0}, {pair{1, 0}, pair{1, 1}, 0}, {pair{1, 1}, pair{2, 0}, 2}, {pair{2, 0}, pair{2, 1}, 0}, {pair{2, 1}, pair{2, 2}, 2}, {pair{2, 2}, pair{2, 3}, 4}, {pair{2, 3}, pair{3, 0}, 6},
		{pair{9, 510}, pair{9, 511}, 1020}, {pair{9, 511}, pair{10, 0}, 1022},
	} {
		if level, next, chain, e := linear.Grow(x.from.level, x.from.next); level != x.to.level || next != x.to.next || chain != x.chain || e != api.OK {
			t.Errorf("Grow%v: %d, %d, %d, %d, want %v, %d", x.from, level, next, chain, e, x.to, x.chain)
		}
		if level, next, chain, e := linear.Shrink(x.to.level, x.to.next); level != x.from.level || next != x.from.next || chain != x.chain || e != api.OK {
			t.Errorf("Shrink%v: %d, %d, %d, %d, want %v, %d", x.to, level, next, chain, e, x.from, x.chain)
		}
	}
}

// splits expects that the cells of two pairs are the same, but that of one chain, of whose halves the other pair has two.
func splits(t *testing.T, from pair, to pair, chain int) {
	t.Helper()
	a, b := cells(from), cells(to)
	if chain < 0 || chain >= len(a) || len(b) != len(a)+1 {
		t.Fatalf("%v has %d chains, %v has %d: chain %d is not split", from, len(a), to, len(b), chain)
	}
	split := a[chain]
	want := slices.Concat(a[:chain], []cell{{split.depth + 1, 2 * split.address}, {split.depth + 1, 2*split.address + 1}}, a[chain+1:])
	if !slices.Equal(b, want) {
		t.Fatalf("%v with chain %d split is %v, and %v is %v", from, chain, want, to, b)
	}
}

// P18.3, P18.4: from level 0 to where DirectoryLimit ends it, and back again, chain by chain.
func TestGrowAndShrink(t *testing.T) {
	p := pair{}
	way := []pair{p}
	var chains []int
	for {
		level, next, chain, e := linear.Grow(p.level, p.next)
		if e == api.DirectoryLimit {
			break
		}
		if e != api.OK {
			t.Fatalf("Grow%v: %d", p, e)
		}
		splits(t, p, pair{level, next}, chain)
		p = pair{level, next}
		way, chains = append(way, p), append(chains, chain)
	}
	if (p != pair{10, 0}) || len(way) != 1024 {
		t.Fatalf("DirectoryLimit at %v, behind %d pairs", p, len(way))
	}
	for i := len(chains) - 1; i >= 0; i-- {
		level, next, chain, e := linear.Shrink(p.level, p.next)
		if (way[i] != pair{level, next}) || chain != chains[i] || e != api.OK {
			t.Fatalf("Shrink%v: %d, %d, %d, %d, want %v, %d", p, level, next, chain, e, way[i], chains[i])
		}
		p = way[i]
	}
	if level, next, chain, e := linear.Shrink(p.level, p.next); level != 0 || next != 0 || chain != 0 || e != api.BadRequest {
		t.Errorf("Shrink%v: %d, %d, %d, %d", p, level, next, chain, e)
	}
}

// P18.3, R3: level 10 does not grow, whatever next is; it shrinks.
func TestTheLastLevel(t *testing.T) {
	for next := range 1024 {
		if level, n, chain, e := linear.Grow(10, next); level != 0 || n != 0 || chain != 0 || e != api.DirectoryLimit {
			t.Fatalf("Grow(10, %d): %d, %d, %d, %d", next, level, n, chain, e)
		}
		level, n, chain, e := linear.Shrink(10, next)
		if e != api.OK || next > 0 && (level != 10 || n != next-1) || next == 0 && (level != 9 || n != 511) {
			t.Fatalf("Shrink(10, %d): %d, %d, %d, %d", next, level, n, chain, e)
		}
		splits(t, pair{level, n}, pair{10, next}, chain)
	}
}

// P18.3, R3
func TestGrowAndShrinkRefuse(t *testing.T) {
	for _, p := range wrongPairs() {
		if level, next, chain, e := linear.Grow(p.level, p.next); level != 0 || next != 0 || chain != 0 || e != api.BadRequest {
			t.Errorf("Grow%v: %d, %d, %d, %d", p, level, next, chain, e)
		}
		if level, next, chain, e := linear.Shrink(p.level, p.next); level != 0 || next != 0 || chain != 0 || e != api.BadRequest {
			t.Errorf("Shrink%v: %d, %d, %d, %d", p, level, next, chain, e)
		}
	}
}

// R5, R6: what is handed in is not changed; what is told is new; the same again, it is the same.
func TestNothingIsShared(t *testing.T) {
	for _, p := range ends(rand.New(rand.NewSource(8))) {
		for dim := 1; dim <= 6; dim++ {
			given := key.Whole(dim)
			given.High[0] = half + 5
			l, _ := linear.Range(given, p.level, p.next)
			clear(l[:cap(l)])
			ranges(t, given, p, boxes(dim, p))
			if given.High[0] != half+5 || !slices.Equal(given.Low, make(api.Key, dim)) || !slices.Equal(given.High[1:], key.Whole(dim).High[1:]) {
				t.Errorf("Range has changed its box: %v", given)
			}
			k := slices.Clone(given.High)
			if _, e := linear.Find(k, p.level, p.next); e != api.OK || !slices.Equal(k, given.High) {
				t.Errorf("Find has changed its point: %v, %d", k, e)
			}
			for _, chain := range []int{0, 1<<p.level + p.next - 1} {
				b, _ := linear.Box(dim, p.level, p.next, chain)
				for at := range b.Low {
					if b.Low[at] = 7; b.High[at] == 7 {
						t.Errorf("the lists of a Box share their memory")
					}
					b.High[at] = 5
				}
				if b, _ := linear.Box(dim, p.level, p.next, chain); !same(b, cells(p)[chain].box(dim)) {
					t.Errorf("Box(%d, %v, %d): %v", dim, p, chain, b)
				}
			}
		}
	}
}
