package part_test

import (
	"math"
	"math/rand"
	"slices"
	"strings"
	"testing"
	"unsafe"

	"cadastre/api"
	"cadastre/bucket"
	"cadastre/key"
	"cadastre/part"
)

const most = math.MaxUint32

// wrongPlaces are numbers of which no point has a coordinate.
var wrongPlaces = []int{math.MinInt, -7, -1, 6, 7, 100, 1 << 32, math.MaxInt}

// rec is a record, written short.
func rec(data string, k ...uint32) api.Record { return api.Record{Key: k, Data: data} }

func box(low api.Key, high api.Key) api.Box { return api.Box{Low: low, High: high} }

func sameBox(a api.Box, b api.Box) bool {
	return slices.Equal(a.Low, b.Low) && slices.Equal(a.High, b.High)
}

func copiedBox(b api.Box) api.Box { return box(slices.Clone(b.Low), slices.Clone(b.High)) }

func same(a []api.Record, b []api.Record) bool {
	return slices.EqualFunc(a, b, func(a api.Record, b api.Record) bool {
		return slices.Equal(a.Key, b.Key) && a.Data == b.Data
	})
}

// copied shares nothing with l.
func copied(l []api.Record) []api.Record {
	var out []api.Record
	for _, r := range l {
		out = append(out, api.Record{Key: slices.Clone(r.Key), Data: strings.Clone(r.Data)})
	}
	return out
}

// mayBe says it word by word as the document does.
func mayBe(b api.Box) bool {
	if len(b.Low) < 1 || len(b.Low) > 6 || len(b.High) != len(b.Low) {
		return false
	}
	for at := range b.Low {
		if b.Low[at] > b.High[at] {
			return false
		}
	}
	return true
}

func halved(b api.Box, at int) (api.Box, api.Box, bool) {
	if !mayBe(b) || at < 0 || at >= len(b.Low) || b.Low[at] == b.High[at] {
		return api.Box{}, api.Box{}, false
	}
	low, high := copiedBox(b), copiedBox(b)
	middle := (uint64(b.Low[at]) + uint64(b.High[at])) / 2
	low.High[at] = uint32(middle)
	high.Low[at] = uint32(middle + 1)
	return low, high, true
}

// ends are pairs that a coordinate of a box may have.
func ends() [][2]uint32 {
	return [][2]uint32{
		{0, 0}, {0, 1}, {0, 2}, {0, 9}, {1, 1}, {1, 2}, {1, 4}, {7, 10}, {0, most}, {0, most - 1}, {1, most}, {most, most}, {most - 1, most}, {most - 2, most},
		{1 << 31, most}, {0, 1<<31 - 1}, {0, 1 << 31}, {1<<31 - 1, 1 << 31}, {1<<31 + 1, most}, {3, 1 << 30},
	}
}

// boxes are some of all numbers of coordinates, that may be.
func boxes() []api.Box {
	var out []api.Box
	for dim := 1; dim <= 6; dim++ {
		for i := range ends() {
			var b api.Box
			for at := range dim {
				e := ends()[(i+7*at)%len(ends())]
				b.Low, b.High = append(b.Low, e[0]), append(b.High, e[1])
			}
			out = append(out, b)
		}
		out = append(out, key.Whole(dim), box(make(api.Key, dim), make(api.Key, dim)))
	}
	return out
}

// wrongBoxes are some that may not be.
func wrongBoxes() []api.Box {
	out := []api.Box{{}, {Low: api.Key{}, High: api.Key{}}, {Low: api.Key{1}}, {High: api.Key{1}}}
	for low := range 9 {
		for high := range 9 {
			if low != high || low == 0 || low > 6 {
				out = append(out, box(make(api.Key, low), slices.Repeat(api.Key{9}, high)))
			}
		}
	}
	for dim := 1; dim <= 6; dim++ {
		for at := range dim {
			b := box(make(api.Key, dim), slices.Repeat(api.Key{9}, dim))
			b.Low[at] = 10
			out = append(out, b)
		}
	}
	return out
}

// P11.1: by hand.
func TestHalvesByHand(t *testing.T) {
	for _, x := range []struct {
		b          api.Box
		at         int
		low, upper api.Box
	}{
		{box(api.Key{0}, api.Key{9}), 0, box(api.Key{0}, api.Key{4}), box(api.Key{5}, api.Key{9})},
		{box(api.Key{0}, api.Key{1}), 0, box(api.Key{0}, api.Key{0}), box(api.Key{1}, api.Key{1})},
		{box(api.Key{1}, api.Key{3}), 0, box(api.Key{1}, api.Key{2}), box(api.Key{3}, api.Key{3})},
		{box(api.Key{0}, api.Key{most}), 0, box(api.Key{0}, api.Key{1<<31 - 1}), box(api.Key{1 << 31}, api.Key{most})},
		{box(api.Key{most - 1}, api.Key{most}), 0, box(api.Key{most - 1}, api.Key{most - 1}), box(api.Key{most}, api.Key{most})},
		{box(api.Key{most - 3}, api.Key{most}), 0, box(api.Key{most - 3}, api.Key{most - 2}), box(api.Key{most - 1}, api.Key{most})},
		{box(api.Key{0, 3}, api.Key{9, 5}), 1, box(api.Key{0, 3}, api.Key{9, 4}), box(api.Key{0, 5}, api.Key{9, 5})},
		{box(api.Key{0, 3}, api.Key{9, 3}), 0, box(api.Key{0, 3}, api.Key{4, 3}), box(api.Key{5, 3}, api.Key{9, 3})},
	} {
		low, upper, ok := part.Halves(x.b, x.at)
		if !ok || !sameBox(low, x.low) || !sameBox(upper, x.upper) {
			t.Errorf("Halves(%v, %d): %v, %v, %t, want %v, %v", x.b, x.at, low, upper, ok, x.low, x.upper)
		}
	}
}

// P11.1: at each coordinate, among them those of one number and of all numbers.
func TestHalves(t *testing.T) {
	for _, b := range boxes() {
		for _, at := range append([]int{0, 1, 2, 3, 4, 5}, wrongPlaces...) {
			low, upper, ok := part.Halves(b, at)
			wantLow, wantUpper, want := halved(b, at)
			if ok != want || !sameBox(low, wantLow) || !sameBox(upper, wantUpper) {
				t.Errorf("Halves(%v, %d): %v, %v, %t, want %v, %v, %t", b, at, low, upper, ok, wantLow, wantUpper, want)
			}
		}
	}
}

// P11.1, R3
func TestHalvesRefuses(t *testing.T) {
	refuse := func(b api.Box, at int) {
		t.Helper()
		low, upper, ok := part.Halves(b, at)
		if ok || len(low.Low)+len(low.High)+len(upper.Low)+len(upper.High) != 0 {
			t.Errorf("Halves(%v, %d): %v, %v, %t", b, at, low, upper, ok)
		}
	}
	for _, b := range wrongBoxes() {
		for _, at := range append([]int{0, 1, 2, 3, 4, 5}, wrongPlaces...) {
			refuse(b, at)
		}
	}
	for _, b := range boxes() {
		for _, at := range append([]int{len(b.Low), len(b.Low) + 1}, wrongPlaces...) {
			refuse(b, at)
		}
	}
	for _, n := range []uint32{0, 1, 7, most} {
		refuse(box(api.Key{n}, api.Key{n}), 0)
		refuse(box(api.Key{n, 0}, api.Key{n, 9}), 0)
		refuse(box(api.Key{0, n}, api.Key{9, n}), 1)
	}
}

// P11.4: halves are all of a box, and have nothing both.
func TestHalvesAreAll(t *testing.T) {
	for low := range uint32(7) {
		for high := low; high < 9; high++ {
			for other := low; other < 9; other++ {
				b := box(api.Key{low, low}, api.Key{high, other})
				for at := range 2 {
					lower, upper, ok := part.Halves(b, at)
					if !ok {
						continue
					}
					if m, both := key.Meet(lower, upper); both {
						t.Errorf("the halves of %v have both %v", b, m)
					}
					for i := range uint32(81) {
						k := api.Key{i / 9, i % 9}
						if key.In(k, b) != (key.In(k, lower) || key.In(k, upper)) {
							t.Errorf("%v is in one of %v and %v alone", k, b, []api.Box{lower, upper})
						}
					}
				}
			}
		}
	}
	for _, b := range boxes() {
		for at := range b.Low {
			lower, upper, ok := part.Halves(b, at)
			if !ok {
				continue
			}
			first := uint64(lower.High[at]) - uint64(lower.Low[at])
			second := uint64(upper.High[at]) - uint64(upper.Low[at])
			if first+second+1 != uint64(b.High[at])-uint64(b.Low[at]) || first < second || first > second+1 {
				t.Errorf("the halves of %v at %d: %v, %v", b, at, lower, upper)
			}
		}
	}
}

// R5: the box is not changed, nor its spare room; the halves share nothing with it, nor with one another.
func TestHalvesAreNew(t *testing.T) {
	room := api.Key{1, 2, 3, 4, 8, 9, 10, 11, 12, 13}
	for _, b := range []api.Box{box(room[0:2], room[4:6]), box(room[0:3], room[5:8]), box(room[2:3], room[4:5])} {
		before := slices.Clone(room)
		for at := range b.Low {
			lower, upper, _ := part.Halves(b, at)
			wantLower, wantUpper, _ := halved(b, at)
			wanted := []api.Key{wantLower.Low, wantLower.High, wantUpper.Low, wantUpper.High}
			for i, k := range []api.Key{lower.Low, lower.High, upper.Low, upper.High} {
				if !slices.Equal(k, wanted[i]) {
					t.Errorf("two lists of the halves of %v share their memory: %v, want %v", b, k, wanted[i])
				}
				spoilKey(k)
			}
			if !slices.Equal(room, before) {
				t.Fatalf("Halves has changed what was handed in: %v, want %v", room, before)
			}
		}
	}
	one := api.Key{0, 5}
	if lower, upper, ok := part.Halves(box(one, api.Key{9, 9}), 1); !ok || !slices.Equal(lower.Low, one) || !slices.Equal(upper.Low, api.Key{0, 8}) {
		t.Errorf("Halves: %v, %v, %t", lower, upper, ok)
	}
	shared := api.Key{7, 7} // both ends of a box may be one list
	if _, _, ok := part.Halves(box(shared, shared), 0); ok || !slices.Equal(shared, api.Key{7, 7}) {
		t.Errorf("a box of one point was halved: %v", shared)
	}
}

// spoilKey writes into a list, and into its spare room.
func spoilKey(k api.Key) {
	k = k[:cap(k)]
	for i := range k {
		k[i] = 1000
	}
}

// P11.2: by hand.
func TestSplitByHand(t *testing.T) {
	l := []api.Record{rec("a", 1, 9), rec("b", 3, 5), rec("c", 3, 7), rec("d", most, 0)}
	for _, x := range []struct {
		at    int
		bound uint32
		below string
		other string
	}{
		{0, 0, "", "abcd"}, {0, 1, "", "abcd"}, {0, 2, "a", "bcd"}, {0, 3, "a", "bcd"}, {0, 4, "abc", "d"}, {0, most, "abc", "d"},
		{1, 0, "", "abcd"}, {1, 1, "d", "abc"}, {1, 5, "d", "abc"}, {1, 6, "bd", "ac"}, {1, 7, "bd", "ac"}, {1, 8, "bcd", "a"}, {1, 9, "bcd", "a"}, {1, 10, "abcd", ""}, {1, most, "abcd", ""},
	} {
		below, others, e := part.Split(l, x.at, x.bound)
		if e != api.OK || told(below) != x.below || told(others) != x.other {
			t.Errorf("Split at %d, %d: %v, %v, %d, want %q, %q", x.at, x.bound, below, others, e, x.below, x.other)
		}
	}
	if below, others, e := part.Split([]api.Record{rec("x", most)}, 0, most); len(below) != 0 || told(others) != "x" || e != api.OK {
		t.Errorf("Split of the greatest: %v, %v, %d", below, others, e)
	}
}

// told writes records in short.
func told(l []api.Record) string {
	var s strings.Builder
	for _, r := range l {
		s.WriteString(r.Data)
	}
	return s.String()
}

// P11.2: of no records none lacks a coordinate.
func TestSplitOfNothing(t *testing.T) {
	for _, l := range [][]api.Record{nil, {}} {
		for _, at := range append([]int{0, 1, 5}, wrongPlaces...) {
			if below, others, e := part.Split(l, at, 7); len(below) != 0 || len(others) != 0 || e != api.OK {
				t.Errorf("Split of nothing at %d: %v, %v, %d", at, below, others, e)
			}
		}
	}
}

// P11.2, R3: one record that lacks the coordinate, wherever it stands.
func TestSplitRefuses(t *testing.T) {
	refuse := func(l []api.Record, at int) {
		t.Helper()
		for _, bound := range []uint32{0, 5, most} {
			if below, others, e := part.Split(l, at, bound); len(below) != 0 || len(others) != 0 || e != api.BadRequest {
				t.Errorf("Split(%v, %d, %d): %v, %v, %d", l, at, bound, below, others, e)
			}
		}
	}
	l := []api.Record{rec("a", 1, 2), rec("b", 5, 6), rec("c", 9, 9)}
	for _, at := range append([]int{2, 3}, wrongPlaces...) {
		refuse(l, at)
	}
	for i := range l {
		for _, short := range []api.Record{rec("x", 4), rec("x"), {}} {
			refuse(slices.Concat(l[:i], []api.Record{short}, l[i:]), 1)
			refuse(slices.Concat(l[:i+1], []api.Record{short}, l[i+1:]), 1)
		}
	}
	refuse([]api.Record{{}}, 0)
	refuse([]api.Record{rec("x", 1, 2, 3, 4, 5, 6, 7)}, 7)
}

// P11.2: what is no bucket, and points that may not be, are split as well.
func TestSplitOfAnyList(t *testing.T) {
	l := []api.Record{rec("c", 9), rec("a", 1, 7, 7), rec("a", 1, 7, 7), rec("b", 5, 1, 2, 3, 4, 5, 6, 7), rec(strings.Repeat("d", 100), 0)}
	below, others, e := part.Split(l, 0, 5)
	if e != api.OK || !same(below, []api.Record{l[1], l[2], l[4]}) || !same(others, []api.Record{l[0], l[3]}) {
		t.Errorf("Split: %v, %v, %d", below, others, e)
	}
	if below, others, e = part.Split(l[3:4], 7, 7); e != api.OK || len(below) != 0 || !same(others, l[3:4]) {
		t.Errorf("Split at a seventh coordinate: %v, %v, %d", below, others, e)
	}
}

// some is a bucket of so many coordinates, with few Keys, so that two often have one both.
func some(r *rand.Rand, dim int, mark string) []api.Record {
	var out []api.Record
	for range r.Intn(12) {
		k := make(api.Key, dim)
		for at := range k {
			k[at] = []uint32{0, 1, 2, 3, 1 << 31, most}[r.Intn(6)]
		}
		out = bucket.Put(out, api.Record{Key: k, Data: mark + strings.Repeat("x", r.Intn(3))})
	}
	return out
}

// P11.2, P11.4: what is split is put together again, at every bound.
func TestSplitAndMerge(t *testing.T) {
	r := rand.New(rand.NewSource(1))
	for range 600 {
		dim := 1 + r.Intn(6)
		l := some(r, dim, "a")
		for at := range dim {
			for _, bound := range []uint32{0, 1, 2, 3, 4, 1<<31 - 1, 1 << 31, 1<<31 + 1, most - 1, most} {
				below, others, e := part.Split(l, at, bound)
				if e != api.OK {
					t.Fatalf("Split(%v, %d, %d): %d", l, at, bound, e)
				}
				var wantBelow, wantOthers []api.Record
				for _, x := range l {
					if x.Key[at] < bound {
						wantBelow = append(wantBelow, x)
					} else {
						wantOthers = append(wantOthers, x)
					}
				}
				if !same(below, wantBelow) || !same(others, wantOthers) {
					t.Fatalf("Split(%v, %d, %d): %v, %v", l, at, bound, below, others)
				}
				if m := part.Merge(below, others); !same(m, l) {
					t.Fatalf("Merge(%v, %v): %v, want %v", below, others, m, l)
				}
				if m := part.Merge(others, below); !same(m, l) {
					t.Fatalf("Merge(%v, %v): %v, want %v", others, below, m, l)
				}
			}
		}
	}
}

// P11.2: by hand.
func TestMergeByHand(t *testing.T) {
	for _, x := range []struct {
		a, b []api.Record
		want string
	}{
		{nil, nil, ""}, {[]api.Record{}, nil, ""},
		{[]api.Record{rec("a", 1)}, nil, "a"}, {nil, []api.Record{rec("b", 1)}, "b"},
		{[]api.Record{rec("a", 1)}, []api.Record{rec("b", 2)}, "ab"}, {[]api.Record{rec("a", 2)}, []api.Record{rec("b", 1)}, "ba"},
		{[]api.Record{rec("a", 1)}, []api.Record{rec("b", 1)}, "b"}, {[]api.Record{rec("a", most)}, []api.Record{rec("", most)}, ""},
		{[]api.Record{rec("a", 1), rec("c", 5), rec("e", 9)}, []api.Record{rec("b", 3), rec("d", 7)}, "abcde"},
		{[]api.Record{rec("a", 1), rec("b", 5), rec("c", 9)}, []api.Record{rec("x", 1), rec("y", 5), rec("z", 9)}, "xyz"},
		{[]api.Record{rec("a", 1), rec("b", 5), rec("c", 9)}, []api.Record{rec("y", 5)}, "ayc"},
		{[]api.Record{rec("y", 5)}, []api.Record{rec("a", 1), rec("b", 5), rec("c", 9)}, "abc"},
		{[]api.Record{rec("a", 1, 9), rec("b", 2, 0)}, []api.Record{rec("c", 1, 5), rec("d", 2, 0), rec("e", 2, 1)}, "cade"},
		{[]api.Record{rec("a"), rec("b", 1)}, []api.Record{rec("c"), rec("d", 0, 5), rec("e", 1, 0)}, "cdbe"},
	} {
		if m := part.Merge(x.a, x.b); told(m) != x.want {
			t.Errorf("Merge(%v, %v): %v, want %q", x.a, x.b, m, x.want)
		}
	}
}

// P11.2: told beside a plain map; of two buckets it is a bucket.
func TestMerge(t *testing.T) {
	r := rand.New(rand.NewSource(2))
	for range 3000 {
		dim := 1 + r.Intn(3)
		a, b := some(r, dim, "a"), some(r, dim, "b")
		want := a
		for _, x := range b {
			want = bucket.Put(want, x)
		}
		if m := part.Merge(a, b); !same(m, want) {
			t.Fatalf("Merge(%v, %v): %v, want %v", a, b, m, want)
		}
	}
}

// P11.2: a list that rises may have a Key more than once: of two lists with one Key that of b alone.
func TestMergeOfKeysTwice(t *testing.T) {
	a := []api.Record{rec("a", 1), rec("b", 1), rec("c", 3), rec("d", 3), rec("e", 5)}
	b := []api.Record{rec("v", 0), rec("w", 0), rec("x", 3), rec("y", 3), rec("z", 4)}
	if m := told(part.Merge(a, b)); m != "vwabxyze" {
		t.Errorf("Merge: %q", m)
	}
	if m := told(part.Merge(b, a)); m != "vwabcdze" {
		t.Errorf("Merge: %q", m)
	}
}

// R1: of lists that do not rise it comes to an end.
func TestMergeOfAnyLists(t *testing.T) {
	r := rand.New(rand.NewSource(3))
	for range 2000 {
		var lists [2][]api.Record
		for i := range lists {
			for range r.Intn(6) {
				lists[i] = append(lists[i], api.Record{Key: make(api.Key, r.Intn(3)), Data: "x"})
			}
		}
		if m := part.Merge(lists[0], lists[1]); len(m) > len(lists[0])+len(lists[1]) || len(m) < len(lists[1]) {
			t.Fatalf("Merge(%v, %v): %v", lists[0], lists[1], m)
		}
	}
}

// apart expects that an answer shares no memory with what was handed in, nor its lists with one another; then it spoils the answer.
func apart(t *testing.T, answer []api.Record, given []api.Record) {
	t.Helper()
	want := copied(answer)
	for i, r := range answer {
		for _, g := range given {
			at, from := uintptr(unsafe.Pointer(unsafe.StringData(r.Data))), uintptr(unsafe.Pointer(unsafe.StringData(g.Data)))
			if r.Data != "" && at >= from && at < from+uintptr(len(g.Data)) {
				t.Errorf("the answer shares the text %q", r.Data)
			}
		}
		if !slices.Equal(r.Key, want[i].Key) {
			t.Errorf("two lists of an answer share their memory: %v", r.Key)
		}
		spoilKey(r.Key)
	}
	clear(answer[:cap(answer)])
}

// R5: what is handed in is not changed, nor is its spare room; what is answered shares nothing with it.
func TestSplitAndMergeAreNew(t *testing.T) {
	keys := api.Key{1, 1, 3, 3, 5, 5, 7, 7}
	data := "one and three and five"
	room := []api.Record{{Key: keys[0:2], Data: data[:3]}, {Key: keys[2:4], Data: data[8:13]}, {Key: keys[4:6], Data: data[18:]}, {Key: keys[6:8], Data: "spare"}, {Data: "spare, too"}}
	before, points := copied(room), slices.Clone(keys)
	for n := range 4 {
		for bound := range uint32(8) {
			below, others, e := part.Split(room[:n], 1, bound)
			if e != api.OK {
				t.Fatalf("Split: %d", e)
			}
			kept := copied(others)
			apart(t, below, room)
			if !same(others, kept) {
				t.Fatalf("the lists of an answer share something: %v, want %v", others, kept)
			}
			apart(t, others, room)
		}
		for from := range n + 1 {
			apart(t, part.Merge(room[:from], room[from:n]), room)
			apart(t, part.Merge(room[from:n], room[:from]), room)
			apart(t, part.Merge(room[:n], room[from:n]), room)
		}
		if !same(room, before) || !slices.Equal(keys, points) {
			t.Fatalf("what was handed in has changed: %v, %v", room, keys)
		}
	}
}

// chosen says it word by word as the document does.
func chosen(b api.Box, l []api.Record, from int) (int, bool) {
	if !mayBe(b) || from < 0 || from >= len(b.Low) {
		return 0, false
	}
	first, found := 0, false
	for i := range b.Low {
		at := from + i
		if at >= len(b.Low) {
			at -= len(b.Low)
		}
		lower, upper, ok := halved(b, at)
		if !ok {
			continue
		}
		one, other := false, false
		for _, r := range l {
			one = one || key.In(r.Key, lower)
			other = other || key.In(r.Key, upper)
		}
		if one && other {
			return at, true
		}
		if !found {
			first, found = at, true
		}
	}
	return first, found
}

// P11.3: by hand.
func TestChooseByHand(t *testing.T) {
	nine := box(api.Key{0, 0, 0}, api.Key{9, 9, 9})
	narrow := box(api.Key{0, 5, 0}, api.Key{9, 5, 9})
	point := box(api.Key{5, 5, 5}, api.Key{5, 5, 5})
	two := []api.Record{rec("", 1, 1, 1), rec("", 2, 2, 7)}
	for i, x := range []struct {
		b    api.Box
		l    []api.Record
		from int
		want int
		ok   bool
	}{
		{nine, nil, 0, 0, true}, {nine, nil, 1, 1, true}, {nine, nil, 2, 2, true},
		{nine, two, 0, 2, true}, {nine, two, 1, 2, true}, {nine, two, 2, 2, true},
		{nine, two[:1], 0, 0, true}, {nine, two[:1], 1, 1, true}, {nine, two[:1], 2, 2, true},
		{nine, []api.Record{rec("", 1, 7, 1), rec("", 7, 2, 1)}, 2, 0, true}, {nine, []api.Record{rec("", 1, 7, 1), rec("", 7, 2, 1)}, 1, 1, true},
		{nine, []api.Record{rec("", 4, 0, 0), rec("", 5, 0, 0)}, 1, 0, true}, {nine, []api.Record{rec("", 5, 0, 0), rec("", 9, 0, 0)}, 1, 1, true},
		{nine, []api.Record{rec("", 1, 0, 0), rec("", 10, 0, 0)}, 1, 1, true}, {nine, []api.Record{rec("", 1, 0), rec("", 9, 0)}, 2, 2, true},
		{nine, []api.Record{rec("", 1, 0, 0), rec("", 9, 0, 10)}, 1, 1, true},
		{narrow, nil, 0, 0, true}, {narrow, nil, 1, 2, true}, {narrow, nil, 2, 2, true},
		{narrow, []api.Record{rec("", 1, 5, 1), rec("", 7, 5, 1)}, 1, 0, true}, {narrow, []api.Record{rec("", 1, 5, 1), rec("", 1, 5, 7)}, 0, 2, true},
		{narrow, []api.Record{rec("", 1, 1, 1), rec("", 7, 9, 1)}, 1, 2, true},
		{point, nil, 0, 0, false}, {point, []api.Record{rec("", 5, 5, 5)}, 1, 0, false}, {point, two, 2, 0, false}, {point, []api.Record{{}}, 2, 0, false},
		{narrow, []api.Record{{}}, 1, 2, true}, {narrow, []api.Record{{}, rec("", 1, 5, 1), rec("", 7, 5, 1)}, 1, 0, true},
		{box(api.Key{7}, api.Key{8}), []api.Record{rec("", 7)}, 0, 0, true}, {key.Whole(1), nil, 0, 0, true}, {key.Whole(6), nil, 5, 5, true},
	} {
		if at, ok := part.Choose(x.b, x.l, x.from); at != x.want || ok != x.ok {
			t.Errorf("case %d: Choose(%v, %v, %d): %d, %t, want %d, %t", i, x.b, x.l, x.from, at, ok, x.want, x.ok)
		}
	}
}

// P11.3: told beside what says it word by word.
func TestChoose(t *testing.T) {
	r := rand.New(rand.NewSource(4))
	for range 20000 {
		dim := 1 + r.Intn(6)
		var b api.Box
		for range dim {
			low := uint32(r.Intn(4))
			b.Low, b.High = append(b.Low, low), append(b.High, low+uint32(r.Intn(3)))
		}
		var l []api.Record
		for range r.Intn(4) {
			k := slices.Clone(b.Low)
			for at := range k {
				k[at] += uint32(r.Intn(2))
				if r.Intn(20) == 0 {
					k[at] = uint32(r.Intn(8))
				}
			}
			l = append(l, api.Record{Key: k[:max(0, len(k)-r.Intn(20)/19)]})
		}
		for from := -1; from <= dim; from++ {
			want, is := chosen(b, l, from)
			if at, ok := part.Choose(b, l, from); at != want || ok != is {
				t.Fatalf("Choose(%v, %v, %d): %d, %t, want %d, %t", b, l, from, at, ok, want, is)
			}
		}
	}
}

// P11.3, R3
func TestChooseRefuses(t *testing.T) {
	refuse := func(b api.Box, l []api.Record, from int) {
		t.Helper()
		if at, ok := part.Choose(b, l, from); at != 0 || ok {
			t.Errorf("Choose(%v, %v, %d): %d, %t", b, l, from, at, ok)
		}
	}
	records := [][]api.Record{nil, {{}}, {rec("", 0), rec("", 9)}, {rec("", 0, 0), rec("", 9, 9)}, {rec("", 0, 0, 0, 0, 0, 0), rec("", 9, 9, 9, 9, 9, 9)}}
	for _, l := range records {
		for _, b := range wrongBoxes() {
			for _, from := range append([]int{0, 1, 2, 3, 4, 5}, wrongPlaces...) {
				refuse(b, l, from)
			}
		}
		for _, b := range boxes() {
			for _, from := range append([]int{len(b.Low)}, wrongPlaces...) {
				refuse(b, l, from)
			}
		}
		for dim := 1; dim <= 6; dim++ {
			for from := range dim {
				refuse(box(slices.Repeat(api.Key{9}, dim), slices.Repeat(api.Key{9}, dim)), l, from)
			}
		}
	}
}

// P11.4: halved again and again at what is chosen, two points are parted.
func TestTwoPointsAreParted(t *testing.T) {
	r := rand.New(rand.NewSource(5))
	for range 2000 {
		dim := 1 + r.Intn(6)
		a, b := make(api.Key, dim), make(api.Key, dim)
		for at := range a {
			a[at] = r.Uint32() >> r.Intn(33)
			b[at] = a[at] // near one another, most of the time
			if r.Intn(3) == 0 {
				b[at] ^= 1 << r.Intn(32)
			}
		}
		if slices.Equal(a, b) {
			continue
		}
		l := []api.Record{{Key: a}, {Key: b}}
		whole, from, steps := key.Whole(dim), r.Intn(dim), 0
		for key.In(a, whole) && key.In(b, whole) {
			at, ok := part.Choose(whole, l, from)
			lower, upper, cut := part.Halves(whole, at)
			if !ok || !cut || steps > 32*dim {
				t.Fatalf("%v and %v are not parted: %v", a, b, whole)
			}
			if whole = upper; key.In(a, lower) {
				whole = lower
			}
			from = (at + steps%2) % dim
			steps++
		}
	}
}

// R5, R6: the same again, it is the same; and nothing that was handed in has changed.
func TestChooseAgain(t *testing.T) {
	for _, b := range append(boxes(), wrongBoxes()...) {
		l := []api.Record{{Key: slices.Clone(b.Low), Data: "x"}, {Key: slices.Clone(b.High)}}
		before, whole := copied(l), copiedBox(b)
		for from := range 6 {
			at, ok := part.Choose(b, l, from)
			again, is := part.Choose(b, l, from)
			if at != again || ok != is || !same(l, before) || !sameBox(b, whole) {
				t.Errorf("Choose(%v, %v, %d): %d, %t, again %d, %t", whole, before, from, at, ok, again, is)
			}
		}
	}
}
