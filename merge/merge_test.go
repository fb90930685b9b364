package merge_test

import (
	"math"
	"math/rand"
	"slices"
	"strconv"
	"strings"
	"testing"
	"unsafe"

	"cadastre/api"
	"cadastre/key"
	"cadastre/merge"
)

const most = math.MaxUint32

func rec(data string, k ...uint32) api.Record { return api.Record{Key: k, Data: data} }

// list is one of points of one coordinate; each record's Data tells the list and its place there.
func list(name string, keys ...uint32) []api.Record {
	var l []api.Record
	for i, k := range keys {
		l = append(l, rec(name+strconv.Itoa(i), k))
	}
	return l
}

// told are records in short: what their Data are.
func told(l []api.Record) string {
	var s []string
	for _, r := range l {
		s = append(s, r.Data)
	}
	return strings.Join(s, " ")
}

func same(a []api.Record, b []api.Record) bool {
	return slices.EqualFunc(a, b, func(a api.Record, b api.Record) bool { return slices.Equal(a.Key, b.Key) && a.Data == b.Data })
}

func copied(l []api.Record) []api.Record {
	var out []api.Record
	for _, r := range l {
		out = append(out, rec(r.Data, slices.Clone(r.Key)...))
	}
	return out
}

func copiedLists(lists [][]api.Record) [][]api.Record {
	var out [][]api.Record
	for _, l := range lists {
		out = append(out, copied(l))
	}
	return out
}

// plainAll are the records of all lists, each put behind those that are not above it.
func plainAll(lists [][]api.Record) []api.Record {
	var out []api.Record
	for _, l := range lists {
		for _, r := range l {
			at := len(out)
			for at > 0 && key.Compare(out[at-1].Key, r.Key) > 0 {
				at--
			}
			out = slices.Insert(out, at, r)
		}
	}
	return out
}

// P21.1: by hand; example 1.
func TestAll(t *testing.T) {
	for _, x := range []struct {
		lists [][]api.Record
		want  string
	}{
		{nil, ""}, {[][]api.Record{}, ""}, {[][]api.Record{nil}, ""}, {[][]api.Record{{}, nil, {}}, ""},
		{[][]api.Record{list("a", 1, 3), list("b", 2)}, "a0 b0 a1"},
		{[][]api.Record{list("a", 1, 3, 9)}, "a0 a1 a2"}, {[][]api.Record{nil, list("a", 1, 3, 9), {}}, "a0 a1 a2"},
		{[][]api.Record{list("a", 0, most), list("b", 0, most)}, "a0 b0 a1 b1"},
		{[][]api.Record{list("a", 7, 8, 9), list("b", 1, 2, 3), list("c", 4, 5, 6)}, "b0 b1 b2 c0 c1 c2 a0 a1 a2"},
		// one Key in several lists
		{[][]api.Record{list("a", 5), list("b", 5), list("c", 5), list("d", 5)}, "a0 b0 c0 d0"},
		{[][]api.Record{list("a", 6), list("b", 5, 6), list("c", 4, 6), list("d", 3, 5, 6)}, "d0 c0 b0 d1 a0 b1 c1 d2"},
		// one Key several times in a list
		{[][]api.Record{list("a", 5, 5, 5)}, "a0 a1 a2"},
		{[][]api.Record{list("a", 5, 5, 5), list("b", 5, 5), list("c", 5)}, "a0 a1 a2 b0 b1 c0"},
		{[][]api.Record{list("a", 4, 5, 5, 6), list("b", 5, 5, 6, 6), list("c", 1, 5, 6)}, "c0 a0 a1 a2 b0 b1 c1 a3 b2 b3 c2"},
		// points of several coordinates, and of unlike many
		{[][]api.Record{{rec("a", 1, 9), rec("b", 2, 0)}, {rec("c", 1, 8), rec("d", 1, 9), rec("e", 1, 10)}}, "c a d e b"},
		{[][]api.Record{{rec("a"), rec("b", 1, 1)}, {rec("c"), rec("d", 1), rec("e", 1, 1, 0, 0, 0, 0, 0)}}, "a c d b e"},
	} {
		for range 2 {
			if have := merge.All(x.lists); told(have) != x.want {
				t.Errorf("All(%v): %q, want %q", x.lists, told(have), x.want)
			}
		}
	}
}

// P21.1: most below 1, 1, one less than there are, just as many, and more.
func TestFirst(t *testing.T) {
	for _, x := range []struct {
		lists [][]api.Record
		all   string
	}{
		{nil, ""}, {[][]api.Record{{}, nil}, ""}, {[][]api.Record{list("a", 7)}, "a0"},
		{[][]api.Record{list("a", 1, 3), list("b", 2)}, "a0 b0 a1"},
		{[][]api.Record{list("a", 4, 5, 5, 6), list("b", 5, 5, 6, 6), list("c", 1, 5, 6)}, "c0 a0 a1 a2 b0 b1 c1 a3 b2 b3 c2"},
	} {
		all := strings.Fields(x.all)
		for _, n := range []int{math.MinInt, -1, 0, 1, 2, len(all) - 1, len(all), len(all) + 1, 1000, math.MaxInt} {
			want := strings.Join(all[:max(0, min(n, len(all)))], " ")
			if have := merge.First(x.lists, n); told(have) != want {
				t.Errorf("First(%v, %d): %q, want %q", x.lists, n, told(have), want)
			}
		}
	}
}

// rising are some lists that rise, of points of few numbers, so that many are alike.
func rising(r *rand.Rand) [][]api.Record {
	lists := make([][]api.Record, r.Intn(12))
	kinds := 1 + r.Intn(30)
	for place := range lists {
		for i := range r.Intn(20) {
			k := make(api.Key, 1+r.Intn(2))
			k[0] = uint32(r.Intn(kinds))
			lists[place] = append(lists[place], rec(strconv.Itoa(place)+"."+strconv.Itoa(i), k...))
		}
		slices.SortStableFunc(lists[place], func(a api.Record, b api.Record) int { return key.Compare(a.Key, b.Key) })
	}
	return lists
}

// P21.1, P21.3, R6: beside a plain one; the first ones are those of more of them, and nothing is lost.
func TestManyLists(t *testing.T) {
	for seed := range int64(400) {
		lists := rising(rand.New(rand.NewSource(seed)))
		want := plainAll(lists)
		for range 2 {
			if have := merge.All(lists); !same(have, want) {
				t.Fatalf("All(%v): %q, want %q", lists, told(have), told(want))
			}
		}
		for n := range len(want) + 3 {
			if have := merge.First(lists, n); !same(have, want[:min(n, len(want))]) {
				t.Fatalf("First(%v, %d): %q, want %q", lists, n, told(have), told(want[:min(n, len(want))]))
			}
		}
	}
}

// P21.1: more records than a slow way would come through.
func TestLongLists(t *testing.T) {
	lists := make([][]api.Record, 2000)
	for i := range 200_000 {
		place := i * 7 % len(lists)
		lists[place] = append(lists[place], rec("", uint32(i)))
	}
	for _, n := range []int{200_000, 1} {
		l := merge.First(lists, n)
		for i, r := range l {
			if r.Key[0] != uint32(i) {
				t.Fatalf("place %d: %v", i, r)
			}
		}
		if len(l) != n {
			t.Errorf("First: %d", len(l))
		}
	}
}

// R1, R6: of lists that do not rise nothing is said but that it ends, and tells the same again.
func TestListsThatDoNotRise(t *testing.T) {
	lists := [][]api.Record{list("a", 9, 1, 5, 0), {rec("b", 3, 3), rec("c"), rec("d", 3, 3), rec("e", 1, 2, 3, 4, 5, 6, 7, 8)}, list("f", 2, 2, 1)}
	if a, b := merge.All(lists), merge.All(lists); !same(a, b) {
		t.Errorf("All: %q, again %q", told(a), told(b))
	}
	if a, b := merge.First(lists, 5), merge.First(lists, 5); !same(a, b) {
		t.Errorf("First: %q, again %q", told(a), told(b))
	}
}

// P21.2: by hand.
func TestNear(t *testing.T) {
	row := []api.Record{rec("a", 10), rec("b", 0), rec("c", 14), rec("d", 11)}
	plane := []api.Record{rec("a", 5, 5), rec("b", 7, 3), rec("c", 5, 9), rec("d", 1, 5), rec("e", 8, 8), rec("f", 5, 4)}
	twice := []api.Record{rec("a", 9), rec("b", 7), rec("c", 5), rec("d", 7), rec("e", 5), rec("f", 9), rec("g", 7)}
	ends := []api.Record{rec("a", most), rec("b", 1<<31), rec("c", 0), rec("d", 1<<31-1), rec("e", 1)}
	for _, x := range []struct {
		l    []api.Record
		k    api.Key
		most int
		want string
	}{
		{nil, api.Key{1}, 0, ""}, {nil, api.Key{1}, 9, ""}, {[]api.Record{}, api.Key{1, 2, 3, 4, 5, 6}, 9, ""},
		{row, api.Key{11}, 0, ""}, {row, api.Key{11}, 1, "d"}, {row, api.Key{11}, 2, "d a"}, {row, api.Key{11}, 3, "d a c"}, {row, api.Key{11}, 4, "d a c b"}, {row, api.Key{11}, 5, "d a c b"}, {row, api.Key{11}, math.MaxInt, "d a c b"},
		// the greatest of the differences, whichever coordinate has it: as far the lesser Key is first
		{plane, api.Key{5, 5}, 9, "a f b e d c"}, {plane, api.Key{5, 5}, 3, "a f b"}, {plane, api.Key{6, 4}, 9, "f a b e d c"}, {plane, api.Key{0, 5}, 2, "d f"}, {plane, api.Key{9, 9}, 1, "e"},
		// of one Key the one that stands first
		{twice, api.Key{7}, 9, "b d g c e a f"}, {twice, api.Key{7}, 4, "b d g c"}, {twice, api.Key{7}, 2, "b d"}, {twice, api.Key{8}, 5, "b d g a f"}, {twice, api.Key{0}, 9, "c e b d g a f"}, {twice, api.Key{most}, 9, "a f b d g c e"},
		// differences up to the greatest one there is
		{ends, api.Key{0}, 9, "c e d b a"}, {ends, api.Key{most}, 9, "a b d e c"}, {ends, api.Key{1 << 31}, 9, "b d e a c"}, {ends, api.Key{1<<31 - 1}, 9, "d b e c a"},
		{[]api.Record{rec("a", most, 0), rec("b", 0, most), rec("c", 1, most-1), rec("d", most, most)}, api.Key{0, 0}, 9, "c b a d"},
		{[]api.Record{rec("a", 0, 0, 0, 0, 0, most), rec("b", 9, 9, 9, 9, 9, 9), rec("c", 0, 0, 0, 0, 0, 10)}, api.Key{0, 0, 0, 0, 0, 0}, 9, "b c a"},
	} {
		for range 2 {
			if have, e := merge.Near(x.l, x.k, x.most); told(have) != x.want || e != api.OK {
				t.Errorf("Near(%v, %v, %d): %q, %d, want %q", x.l, x.k, x.most, told(have), e, x.want)
			}
		}
	}
}

// P21.2, R3: each reason for an error, with no records, too.
func TestNearThatMayNotBe(t *testing.T) {
	plane := []api.Record{rec("a", 1, 2), rec("b", 3, 4), rec("c", 5, 6)}
	refuses := func(l []api.Record, k api.Key, most int) {
		t.Helper()
		if have, e := merge.Near(l, k, most); len(have) != 0 || e != api.BadRequest {
			t.Errorf("Near(%v, %v, %d): %v, %d", l, k, most, have, e)
		}
	}
	for _, n := range []int{math.MinInt, -2, -1} {
		refuses(plane, api.Key{1, 2}, n)
		refuses(nil, api.Key{1, 2}, n)
	}
	for _, n := range []int{0, 1, 9} {
		for _, dim := range []int{0, 7, 8, 99} {
			k := make(api.Key, dim)
			refuses(nil, k, n)
			refuses([]api.Record{{Key: k}}, k, n)
		}
		refuses(nil, nil, n)
		refuses([]api.Record{{}}, nil, n)
		refuses(plane, api.Key{1}, n)
		refuses(plane, api.Key{1, 2, 3}, n)
		for place := range 4 {
			for _, wrong := range []api.Record{{}, rec("", 1), rec("", 1, 2, 3), rec("", 1, 2, 3, 4, 5, 6, 7)} {
				refuses(slices.Insert(copied(plane), place, wrong), api.Key{1, 2}, n)
			}
		}
	}
}

// far is how far two points are from one another, word by word.
func far(a api.Key, b api.Key) int64 {
	var most int64
	for i := range a {
		n := int64(a[i]) - int64(b[i])
		most = max(most, n, -n)
	}
	return most
}

// plainNear takes the nearest one of those that are left, again and again.
func plainNear(l []api.Record, k api.Key, n int) []api.Record {
	left := slices.Clone(l)
	var out []api.Record
	for len(out) < n && len(left) > 0 {
		at := 0
		for i, r := range left {
			x, y := far(r.Key, k), far(left[at].Key, k)
			if x < y || x == y && key.Compare(r.Key, left[at].Key) < 0 {
				at = i
			}
		}
		out = append(out, left[at])
		left = slices.Delete(left, at, at+1)
	}
	return out
}

// P21.2, P21.3: beside a plain one; who is left out is no nearer than who is told.
func TestNearOfMany(t *testing.T) {
	for seed := range int64(600) {
		r := rand.New(rand.NewSource(seed))
		dim := 1 + r.Intn(6)
		point := func() api.Key {
			k := make(api.Key, dim)
			for at := range k {
				switch seed % 3 {
				case 0:
					k[at] = r.Uint32()
				case 1:
					k[at] = uint32(r.Intn(4))
				default:
					k[at] = []uint32{0, 1, 1<<31 - 1, 1 << 31, most - 1, most}[r.Intn(6)]
				}
			}
			return k
		}
		var l []api.Record
		for i := range r.Intn(60) {
			l = append(l, api.Record{Key: point(), Data: strconv.Itoa(i)})
		}
		k := point()
		for _, n := range []int{0, 1, 2, len(l) / 2, len(l), len(l) + 1} {
			have, e := merge.Near(l, k, n)
			if want := plainNear(l, k, n); !same(have, want) || e != api.OK {
				t.Fatalf("Near(%v, %v, %d): %q, %d, want %q", l, k, n, told(have), e, told(want))
			}
		}
	}
}

// spoil expects that records share no memory with one another, nor with a text; then it spoils them, and their spare room.
func spoil(t *testing.T, l []api.Record, given string) {
	t.Helper()
	from := uintptr(unsafe.Pointer(unsafe.StringData(given)))
	for i, r := range l {
		if at := uintptr(unsafe.Pointer(unsafe.StringData(r.Data))); r.Data != "" && at >= from && at < from+uintptr(len(given)) {
			t.Errorf("the text %q is shared", r.Data)
		}
		for at := range r.Key[:cap(r.Key)] {
			r.Key[:cap(r.Key)][at] = 12345
		}
		for _, other := range l[i+1:] {
			if slices.Contains(other.Key, 12345) {
				t.Fatalf("two records share their memory")
			}
		}
	}
	clear(l[:cap(l)])
}

// R5: what is handed in is not changed and not kept; what is told is new, also of records that share their memory, or stand in two lists.
func TestNothingIsShared(t *testing.T) {
	text, k := "abcdefgh", api.Key{1, 2, 3, 4}
	a := []api.Record{{Key: k[:1], Data: text[:1]}, {Key: k[:2], Data: text[1:3]}, {Key: k[1:3], Data: text[3:]}}
	lists := append(make([][]api.Record, 0, 9), a[:2], a, nil, a[1:2], a)
	before := copiedLists(lists)
	unchanged := func() {
		t.Helper()
		if !slices.EqualFunc(lists, before, same) || !slices.Equal(k, api.Key{1, 2, 3, 4}) {
			t.Fatalf("%v, want %v", lists, before)
		}
	}
	want := told(merge.All(lists))
	spoil(t, merge.All(lists), text)
	unchanged()
	spoil(t, merge.First(lists, 4), text)
	unchanged()
	if have := told(merge.All(lists)); have != want {
		t.Errorf("All: %q, ahead of that %q", have, want)
	}
	plane := []api.Record{{Key: k[1:3], Data: text[:2]}, {Key: k[:2], Data: text[2:4]}, {Key: k[2:], Data: text[4:]}, {Key: k[:2], Data: "x"}}
	was, point := copied(plane), k[:2:2]
	for _, n := range []int{1, 3, 4, 9} {
		l, e := merge.Near(plane, point, n)
		if e != api.OK || len(l) != min(n, 4) {
			t.Errorf("Near: %v, %d", l, e)
		}
		spoil(t, l, text)
		if !same(plane, was) || !slices.Equal(k, api.Key{1, 2, 3, 4}) {
			t.Fatalf("Near has changed %v to %v", was, plane)
		}
	}
	// what was told stays as it was, whatever comes to what was handed in
	all := merge.All(lists)
	near, _ := merge.Near(plane, point, 9)
	wantAll, wantNear := copied(all), copied(near)
	clear(k)
	clear(a)
	clear(plane)
	if !same(all, wantAll) || !same(near, wantNear) {
		t.Errorf("%v, %v, want %v, %v", all, near, wantAll, wantNear)
	}
}
