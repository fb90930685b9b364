package free_test

import (
	"math"
	"math/rand"
	"slices"
	"strings"
	"testing"

	"cadastre/api"
	"cadastre/free"
)

// sizes are some around the ends of bytes and words.
func sizes() []int {
	return []int{1, 2, 7, 8, 9, 15, 16, 17, 63, 64, 65, 71, 72, 73, 127, 128, 129, 500, 959, 960, 961, 991, 992, 993, 999, 1000}
}

func create(t *testing.T, pages int, first int) *free.Map {
	t.Helper()
	m, e := free.New(pages, first)
	if m == nil || e != api.OK {
		t.Fatalf("New(%d, %d): %v, %d", pages, first, m, e)
	}
	return m
}

func decode(t *testing.T, pages int, s string) *free.Map {
	t.Helper()
	m, e := free.Decode(pages, s)
	if m == nil || e != api.OK {
		t.Fatalf("Decode(%d, %x): %v, %d", pages, s, m, e)
	}
	return m
}

// row is pages of which those below first are taken.
func row(pages int, first int) []bool {
	out := make([]bool, pages)
	for n := range first {
		out[n] = true
	}
	return out
}

// encoded says it bit by bit as the document does.
func encoded(taken []bool) string {
	var out strings.Builder
	for part := range slices.Chunk(taken, 8) {
		b, worth := 0, 128
		for _, is := range part {
			if is {
				b += worth
			}
			worth /= 2
		}
		out.WriteByte(byte(b))
	}
	return out.String()
}

func untaken(taken []bool) int {
	left := 0
	for _, is := range taken {
		if !is {
			left++
		}
	}
	return left
}

// holds expects of a map that just these pages are taken, and none beside them.
func holds(t *testing.T, m *free.Map, taken []bool) {
	t.Helper()
	for n, want := range taken {
		if m.Is(n) != want {
			t.Errorf("of %d pages, Is(%d) is not %t", len(taken), n, want)
		}
	}
	for _, n := range outside(len(taken)) {
		if m.Is(n) {
			t.Errorf("of %d pages, Is(%d)", len(taken), n)
		}
	}
	if left := m.Left(); left != untaken(taken) {
		t.Errorf("of %d pages there are left %d, want %d", len(taken), left, untaken(taken))
	}
	if s := m.Encode(); s != encoded(taken) {
		t.Errorf("of %d pages, Encode: %x, want %x", len(taken), s, encoded(taken))
	}
}

// outside are numbers of which there is no page, some of them in the last byte or word.
func outside(pages int) []int {
	out := []int{math.MinInt, -65, -64, -8, -1, pages, pages + 1, pages + 8, pages + 64, 1001, 1024, 4096, math.MaxInt}
	for n := pages; n < (pages+63)/64*64; n++ {
		out = append(out, n)
	}
	return out
}

// P5.1
func TestNew(t *testing.T) {
	for _, pages := range sizes() {
		for _, first := range append(sizes(), 0, pages-1, pages) {
			if first <= pages {
				holds(t, create(t, pages, first), row(pages, first))
			}
		}
	}
}

// P5.1
func TestNewRefuses(t *testing.T) {
	refused := func(pages int, first int) {
		if m, e := free.New(pages, first); m != nil || e != api.BadRequest {
			t.Errorf("New(%d, %d): %v, %d", pages, first, m, e)
		}
	}
	for _, pages := range []int{math.MinInt, -1000, -8, -1, 0, 1001, 1002, 1024, math.MaxInt} {
		for _, first := range []int{-1, 0, 1, pages} {
			refused(pages, first)
		}
	}
	for _, pages := range sizes() {
		for _, first := range []int{math.MinInt, -64, -1, pages + 1, pages + 64, 1001, math.MaxInt} {
			refused(pages, first)
		}
	}
}

// P5.1, R1
func TestNil(t *testing.T) {
	var m *free.Map
	for _, n := range []int{math.MinInt, -1, 0, 1, 1000, math.MaxInt} {
		if m.Mark(n) != api.BadRequest || m.Give(n) != api.BadRequest || m.Is(n) {
			t.Errorf("a nil map has a page %d", n)
		}
	}
	if n, e := m.Take(); n != 0 || e != api.BadRequest {
		t.Errorf("Take of nil: %d, %d", n, e)
	}
	if m.Left() != 0 || m.Encode() != "" || m.Copy() != nil {
		t.Errorf("a nil map has something: %d, %q, %v", m.Left(), m.Encode(), m.Copy())
	}
}

// R1: a map that neither New nor Decode made has no pages.
func TestZero(t *testing.T) {
	m := new(free.Map)
	for _, n := range []int{math.MinInt, -1, 0, 1, 1000, math.MaxInt} {
		if m.Mark(n) != api.BadRequest || m.Give(n) != api.BadRequest || m.Is(n) {
			t.Errorf("a map without pages has a page %d", n)
		}
	}
	if n, e := m.Take(); n != 0 || e != api.DiskFull {
		t.Errorf("Take of no pages: %d, %d", n, e)
	}
	if m.Left() != 0 || m.Encode() != "" || m.Copy().Left() != 0 {
		t.Errorf("a map without pages has something: %d, %q", m.Left(), m.Encode())
	}
}

// P5.1, R5
func TestCopyIsOfItsOwn(t *testing.T) {
	for _, pages := range sizes() {
		m := create(t, pages, pages/2)
		c := m.Copy()
		holds(t, c, row(pages, pages/2))
		taken := row(pages, pages/2)
		for n := range pages {
			if n%3 != 0 {
				continue
			}
			taken[n] = !taken[n]
			if taken[n] {
				m.Mark(n)
			} else {
				m.Give(n)
			}
		}
		holds(t, m, taken)
		holds(t, c, row(pages, pages/2))
		d := m.Copy()
		for range d.Left() {
			d.Take()
		}
		holds(t, d, row(pages, pages))
		holds(t, m, taken)
	}
}

// P5.2: one behind the other, till none is left.
func TestTake(t *testing.T) {
	for _, pages := range sizes() {
		for _, first := range []int{0, 1, pages / 2, pages - 1, pages} {
			m := create(t, pages, first)
			for want := first; want < pages; want++ {
				if n, e := m.Take(); n != want || e != api.OK {
					t.Fatalf("Take of %d pages from %d on: %d, %d, want %d", pages, first, n, e, want)
				}
				if !m.Is(want) || m.Left() != pages-want-1 {
					t.Errorf("%d was taken of %d pages: %t, there are left %d", want, pages, m.Is(want), m.Left())
				}
			}
			full(t, m, pages)
		}
	}
}

// full expects a map of which nothing is left.
func full(t *testing.T, m *free.Map, pages int) {
	t.Helper()
	for range 2 {
		if n, e := m.Take(); n != 0 || e != api.DiskFull {
			t.Errorf("Take of %d pages that are all taken: %d, %d", pages, n, e)
		}
		holds(t, m, row(pages, pages))
	}
}

// P5.2, P5.4: the lowest one, wherever it is.
func TestTakeFindsTheOneThatIsLeft(t *testing.T) {
	for _, pages := range []int{1, 9, 64, 65, 130, 1000} {
		m := create(t, pages, pages)
		for want := range pages {
			m.Give(want)
			if n, e := m.Take(); n != want || e != api.OK {
				t.Errorf("Take of %d pages, of which %d is left: %d, %d", pages, want, n, e)
			}
		}
		full(t, m, pages)
		for want := pages - 1; want > 0; want-- {
			m.Give(want)
			m.Give(want - 1)
			if n, e := m.Take(); n != want-1 || e != api.OK {
				t.Errorf("Take of %d pages, of which %d and the next one are left: %d, %d", pages, want-1, n, e)
			}
		}
	}
}

// P5.2
func TestMarkAndGive(t *testing.T) {
	for _, pages := range sizes() {
		m := create(t, pages, 0)
		taken := row(pages, 0)
		for _, n := range rand.New(rand.NewSource(int64(pages))).Perm(pages) {
			told(t, "Give", n, m.Give(n), api.BadRequest)
			told(t, "Mark", n, m.Mark(n), api.OK)
			told(t, "Mark again", n, m.Mark(n), api.BadRequest)
			taken[n] = n%2 == 0
			if !taken[n] {
				told(t, "Give", n, m.Give(n), api.OK)
				told(t, "Give again", n, m.Give(n), api.BadRequest)
			}
		}
		holds(t, m, taken)
	}
}

func told(t *testing.T, what string, n int, have api.Errno, want api.Errno) {
	t.Helper()
	if have != want {
		t.Errorf("%s(%d): %d, want %d", what, n, have, want)
	}
}

// P5.2, R3
func TestMarkAndGiveRefuse(t *testing.T) {
	for _, pages := range sizes() {
		m := create(t, pages, pages/2)
		for _, n := range outside(pages) {
			told(t, "Mark", n, m.Mark(n), api.BadRequest)
			told(t, "Give", n, m.Give(n), api.BadRequest)
		}
		for n := range pages {
			if n < pages/2 {
				told(t, "Mark", n, m.Mark(n), api.BadRequest)
			} else {
				told(t, "Give", n, m.Give(n), api.BadRequest)
			}
		}
		holds(t, m, row(pages, pages/2))
	}
}

// P5.3: byte for byte, so that the test's own way of encoding is seen to be right.
func TestEncodeByHand(t *testing.T) {
	m := create(t, 10, 2)
	if n, e := m.Take(); n != 2 || e != api.OK || m.Encode() != "\xe0\x00" {
		t.Errorf("Take: %d, %d, Encode: %x", n, e, m.Encode())
	}
	m.Mark(7)
	m.Mark(9)
	if s := m.Encode(); s != "\xe1\x40" {
		t.Errorf("Encode: %x", s)
	}
	if s := create(t, 8, 8).Encode(); s != "\xff" {
		t.Errorf("Encode of eight pages: %x", s)
	}
	if s := create(t, 9, 9).Encode(); s != "\xff\x80" {
		t.Errorf("Encode of nine pages: %x", s)
	}
	m = create(t, 76, 0)
	m.Mark(63)
	m.Mark(64)
	m.Mark(75)
	if s := m.Encode(); s != "\x00\x00\x00\x00\x00\x00\x00\x01\x80\x10" {
		t.Errorf("Encode of 76 pages: %x", s)
	}
}

// P5.3
func TestEncodeOfOnePage(t *testing.T) {
	for _, pages := range sizes() {
		for n := range pages {
			m := create(t, pages, 0)
			m.Mark(n)
			want := []byte(strings.Repeat("\x00", (pages+7)/8))
			want[n/8] = 128 >> (n % 8)
			if s := m.Encode(); s != string(want) {
				t.Errorf("Encode of page %d of %d: %x", n, pages, s)
			}
		}
	}
}

// P5.3, P5.4
func TestDecode(t *testing.T) {
	r := rand.New(rand.NewSource(1))
	for _, pages := range sizes() {
		for range 20 {
			taken := row(pages, 0)
			for n := range taken {
				taken[n] = r.Intn(3) != 0
			}
			m := decode(t, pages, encoded(taken))
			holds(t, m, taken)
			lowest := slices.Index(taken, false)
			if n, e := m.Take(); lowest >= 0 && (n != lowest || e != api.OK) || lowest < 0 && e != api.DiskFull {
				t.Errorf("Take of a decoded map: %d, %d, want %d", n, e, lowest)
			}
		}
	}
}

// P5.3, R2: how many pages there are is looked at ahead of the bytes.
func TestDecodeRefuses(t *testing.T) {
	for _, pages := range []int{math.MinInt, -8, -1, 0, 1001, 1008, math.MaxInt} {
		for _, s := range []string{"", "\x00", "\xff\xff", strings.Repeat("\x00", 125), strings.Repeat("\x00", 126)} {
			refused(t, pages, s, api.BadRequest)
		}
	}
}

func refused(t *testing.T, pages int, s string, want api.Errno) {
	t.Helper()
	if m, e := free.Decode(pages, s); m != nil || e != want {
		t.Errorf("Decode(%d, %x): %v, %d, want %d", pages, s, m, e, want)
	}
}

// P5.3: too few bytes, too many, and bits of no page.
func TestDecodeForm(t *testing.T) {
	for _, pages := range sizes() {
		size := (pages + 7) / 8
		for _, b := range []string{"\x00", "\x80", "\xff"} {
			for _, n := range []int{0, size - 1, size + 1, size + 7, size + 8, 2 * size, 4097} {
				if n != size {
					refused(t, pages, strings.Repeat(b, n), api.ErrForm)
				}
			}
		}
		for _, taken := range [][]bool{row(pages, 0), row(pages, pages)} {
			good := encoded(taken)
			for n := pages; n < 8*size; n++ {
				bad := []byte(good)
				bad[size-1] |= 128 >> (n % 8)
				refused(t, pages, string(bad), api.ErrForm)
			}
			decode(t, pages, good)
		}
	}
}

// P5.4: given back all is as it was.
func TestGivenBack(t *testing.T) {
	for _, pages := range sizes() {
		m := create(t, pages, pages/3)
		before := m.Encode()
		var got []int
		for range m.Left() {
			n, _ := m.Take()
			got = append(got, n)
		}
		full(t, m, pages)
		rand.New(rand.NewSource(int64(pages))).Shuffle(len(got), func(i, j int) { got[i], got[j] = got[j], got[i] })
		for _, n := range got {
			told(t, "Give", n, m.Give(n), api.OK)
		}
		holds(t, m, row(pages, pages/3))
		if s := m.Encode(); s != before {
			t.Errorf("all was given back: %x, want %x", s, before)
		}
	}
}

// P5.1 to P5.4, R6: long rows of calls, told beside plain rows of pages.
func TestAgainstPlain(t *testing.T) {
	for seed := range int64(60) {
		r := rand.New(rand.NewSource(seed))
		pages := sizes()[r.Intn(len(sizes()))]
		first := r.Intn(pages + 1)
		m, taken := create(t, pages, first), row(pages, first)
		for range 300 {
			m = together(t, r, m, taken)
		}
		holds(t, m, taken)
	}
}

// together does one call on a map and on a plain row of pages; behind it the map may be another one that is like it.
func together(t *testing.T, r *rand.Rand, m *free.Map, taken []bool) *free.Map {
	t.Helper()
	n := r.Intn(len(taken)+2) - 1
	is, isnt := n >= 0 && n < len(taken) && taken[n], n >= 0 && n < len(taken) && !taken[n]
	want := api.BadRequest
	switch r.Intn(8) {
	case 0, 1:
		if isnt {
			taken[n], want = true, api.OK
		}
		told(t, "Mark", n, m.Mark(n), want)
	case 2, 3, 4:
		if is {
			taken[n], want = false, api.OK
		}
		told(t, "Give", n, m.Give(n), want)
	case 5:
		lowest := slices.Index(taken, false)
		have, e := m.Take()
		if lowest < 0 && (have != 0 || e != api.DiskFull) || lowest >= 0 && (have != lowest || e != api.OK) {
			t.Errorf("Take: %d, %d, want %d", have, e, lowest)
		}
		if lowest >= 0 {
			taken[lowest] = true
		}
	case 6:
		return m.Copy()
	default:
		return decode(t, len(taken), m.Encode())
	}
	if left := m.Left(); left != untaken(taken) {
		t.Errorf("there are left %d, want %d", left, untaken(taken))
	}
	return m
}
