package entry_test

import (
	"encoding/binary"
	"hash/crc32"
	"math"
	"math/rand"
	"strings"
	"testing"

	"cadastre/api"
	"cadastre/entry"
)

// long is a text of so many bytes, no two behind each other alike.
func long(size int) string {
	b := make([]byte, size)
	for i := range b {
		b[i] = byte(i*7 + i>>8 + 1)
	}
	return string(b)
}

// staged are pages that may be staged.
func staged() []api.Page {
	var out []api.Page
	for _, number := range []int{0, 1, 255, 256, 998, 999} {
		out = append(out, api.Page{Number: number})
		for kind := 1; kind <= 4; kind++ {
			for _, body := range []string{"", "\x00", "x", "\xff\x00", "é", long(229), long(230), strings.Repeat("\x00", 230)} {
				out = append(out, api.Page{Kind: kind, Number: number, Body: body})
			}
		}
	}
	return out
}

// unstaged are pages that may not be.
func unstaged() []api.Page {
	var out []api.Page
	for _, kind := range []int{math.MinInt, -256, -1, 5, 6, 255, 256, 257, 1<<32 + 1, math.MaxInt} {
		out = append(out, api.Page{Kind: kind, Number: 7}, api.Page{Kind: kind, Number: 7, Body: "x"})
	}
	for kind := range 5 {
		for _, number := range []int{math.MinInt, -1 << 32, -1, 1000, 1001, 65536, 1 << 32, math.MaxInt} {
			out = append(out, api.Page{Kind: kind, Number: number})
		}
		for _, size := range []int{231, 232, 244, 245, 4096, 4097, 65536} {
			out = append(out, api.Page{Kind: kind, Number: 7, Body: long(size)})
		}
	}
	for _, body := range []string{"\x00", "x", long(230)} {
		out = append(out, api.Page{Body: body}, api.Page{Number: 999, Body: body})
	}
	return out
}

// entries are some of each kind that may be.
func entries() []entry.Entry {
	var out []entry.Entry
	for _, tx := range []int{1, 2, 255, 256, 65536, 1 << 31, 1<<32 - 1} {
		for _, index := range []int{0, 1, 255, 256, 998, 999} {
			for _, p := range staged() {
				out = append(out, entry.Entry{Kind: entry.Stage, Tx: tx, Index: index, Page: p})
			}
			out = append(out, entry.Entry{Kind: entry.Abort, Tx: tx, Index: index})
		}
		for _, count := range []int{1, 2, 255, 256, 998, 999} {
			for _, sum := range []uint32{0, 1, 0x01020304, 0x80000000, math.MaxUint32} {
				out = append(out, entry.Entry{Kind: entry.Commit, Tx: tx, Index: count, Count: count, Sum: sum})
			}
		}
	}
	return out
}

// one is a plain entry of each kind.
func one() []entry.Entry {
	return []entry.Entry{
		{Kind: entry.Stage, Tx: 5, Index: 6, Page: api.Page{Kind: 2, Number: 7, Body: "body"}},
		{Kind: entry.Commit, Tx: 5, Index: 6, Count: 6, Sum: 8},
		{Kind: entry.Abort, Tx: 5, Index: 6},
	}
}

// encoded says it word by word as the document does.
func encoded(e entry.Entry) string {
	b := []byte{byte(e.Kind)}
	b = binary.BigEndian.AppendUint32(b, uint32(e.Tx))
	b = binary.BigEndian.AppendUint16(b, uint16(e.Index))
	switch e.Kind {
	case entry.Stage:
		b = append(b, byte(e.Page.Kind))
		b = binary.BigEndian.AppendUint16(b, uint16(e.Page.Number))
		b = append(b, e.Page.Body...)
	case entry.Commit:
		b = binary.BigEndian.AppendUint16(b, uint16(e.Count))
		b = binary.BigEndian.AppendUint32(b, e.Sum)
	}
	return string(b)
}

// with has other bytes from at on.
func with(s string, at int, bytes string) string {
	return s[:at] + bytes + s[at+len(bytes):]
}

// wrong expects an entry that may not be.
func wrong(t *testing.T, e entry.Entry) {
	t.Helper()
	if err := entry.Check(e); err != api.BadRequest {
		t.Errorf("Check(%+v): %d", e, err)
	}
	if s, err := entry.Encode(e); s != "" || err != api.BadRequest {
		t.Errorf("Encode(%+v): %x, %d", e, s, err)
	}
}

// refused expects of Decode an error, and nothing beside it.
func refused(t *testing.T, s string, want api.Errno) {
	t.Helper()
	if e, err := entry.Decode(s); e != (entry.Entry{}) || err != want {
		t.Errorf("Decode of %d bytes, %.20x: %+v, %d, want %d", len(s), s, e, err, want)
	}
}

// reads expects of Decode that entry.
func reads(t *testing.T, s string, want entry.Entry) {
	t.Helper()
	if e, err := entry.Decode(s); e != want || err != api.OK {
		t.Errorf("Decode(%x): %+v, %d, want %+v", s, e, err, want)
	}
}

func TestKinds(t *testing.T) {
	if entry.Stage != 1 || entry.Commit != 2 || entry.Abort != 3 || entry.MostBody != 230 {
		t.Errorf("the kinds are %d, %d, %d, a body has at most %d", entry.Stage, entry.Commit, entry.Abort, entry.MostBody)
	}
}

// P6.1, P6.3
func TestEncodeAndDecode(t *testing.T) {
	for _, e := range entries() {
		if err := entry.Check(e); err != api.OK {
			t.Errorf("Check(%+v): %d", e, err)
		}
		s, err := entry.Encode(e)
		if s != encoded(e) || err != api.OK {
			t.Errorf("Encode(%+v): %x, %d, want %x", e, s, err, encoded(e))
		}
		if len(s) > api.MaxBody {
			t.Errorf("Encode(%+v): %d bytes", e, len(s))
		}
		reads(t, s, e)
	}
}

// P6.1: byte for byte, so that the test's own way of encoding is seen to be right.
func TestByHand(t *testing.T) {
	tests := []struct {
		e entry.Entry
		s string
	}{
		{entry.Entry{Kind: 3, Tx: 1}, "\x03\x00\x00\x00\x01\x00\x00"},
		{entry.Entry{Kind: 3, Tx: 0x01020304, Index: 0x0203}, "\x03\x01\x02\x03\x04\x02\x03"},
		{entry.Entry{Kind: 2, Tx: 1<<32 - 1, Index: 999, Count: 999, Sum: 0x0a0b0c0d}, "\x02\xff\xff\xff\xff\x03\xe7\x03\xe7\x0a\x0b\x0c\x0d"},
		{entry.Entry{Kind: 1, Tx: 2, Index: 258, Page: api.Page{Kind: 4, Number: 513, Body: "ab"}}, "\x01\x00\x00\x00\x02\x01\x02\x04\x02\x01ab"},
		{entry.Entry{Kind: 1, Tx: 2, Page: api.Page{Number: 3}}, "\x01\x00\x00\x00\x02\x00\x00\x00\x00\x03"},
	}
	for _, x := range tests {
		if s, err := entry.Encode(x.e); s != x.s || err != api.OK {
			t.Errorf("Encode(%+v): %x, %d, want %x", x.e, s, err, x.s)
		}
		reads(t, x.s, x.e)
	}
}

// P6.1: what no entry may have, whatever its kind.
func TestCheckRefuses(t *testing.T) {
	for _, e := range one() {
		for _, kind := range []int{math.MinInt, -3, -1, 0, 4, 5, 255, 256, 257, 258, 259, 1<<32 + 1, math.MaxInt} {
			x := e
			x.Kind = kind
			wrong(t, x)
		}
		for _, tx := range []int{math.MinInt, -1 << 32, -1, 0, 1 << 32, 1<<32 + 1, math.MaxInt} {
			x := e
			x.Tx = tx
			wrong(t, x)
		}
		for _, index := range []int{math.MinInt, -1, 1000, 1001, 65535, 65536, 1 << 32, math.MaxInt} {
			x := e
			x.Index = index
			wrong(t, x)
			x.Count = index // of a Commit the two are the same
			wrong(t, x)
		}
	}
	wrong(t, entry.Entry{})
}

// P6.1
func TestCheckOfStage(t *testing.T) {
	good := one()[0]
	for _, p := range unstaged() {
		x := good
		x.Page = p
		wrong(t, x)
	}
	unsummed(t, good)
}

// unsummed expects that an entry may have no Count and no Sum.
func unsummed(t *testing.T, e entry.Entry) {
	t.Helper()
	for _, count := range []int{math.MinInt, -1, 1, e.Index, 999, 65536, 1 << 32} {
		x := e
		x.Count = count
		wrong(t, x)
	}
	for _, sum := range []uint32{1, 0x80000000, math.MaxUint32} {
		x := e
		x.Sum = sum
		wrong(t, x)
	}
}

// unpaged expects that an entry may have no page.
func unpaged(t *testing.T, e entry.Entry) {
	t.Helper()
	for _, p := range []api.Page{{Kind: 1}, {Kind: -1}, {Number: 1}, {Number: -1}, {Body: "\x00"}, {Kind: 2, Number: 7, Body: "body"}} {
		x := e
		x.Page = p
		wrong(t, x)
	}
}

// P6.1
func TestCheckOfCommit(t *testing.T) {
	good := one()[1]
	unpaged(t, good)
	for _, c := range [][2]int{{0, 0}, {-1, -1}, {1000, 1000}, {6, 7}, {7, 6}, {0, 1}, {1, 0}, {6, -6}, {6, 6 + 65536}, {6 + 65536, 6}, {6, 6 + 1<<32}} {
		x := good
		x.Index, x.Count = c[0], c[1]
		wrong(t, x)
	}
}

// P6.1
func TestCheckOfAbort(t *testing.T) {
	good := one()[2]
	unpaged(t, good)
	unsummed(t, good)
}

// P6.1: cut at each byte.
func TestDecodeCut(t *testing.T) {
	refused(t, "", api.ErrCut)
	for i, least := range []int{10, 13, 7} {
		s := encoded(one()[i])
		for size := 1; size < least; size++ {
			refused(t, s[:size], api.ErrCut)
			refused(t, s[:1]+strings.Repeat("\xff", size-1), api.ErrCut)
		}
	}
}

// P6.1: a Stage's body ends where the text does.
func TestDecodeBody(t *testing.T) {
	e := one()[0]
	e.Page.Body = long(230)
	s := encoded(e)
	for size := range 231 {
		e.Page.Body = long(230)[:size]
		reads(t, s[:10+size], e)
	}
}

// P6.1, R2: of a kind that there is not nothing is cut.
func TestDecodeKind(t *testing.T) {
	for kind := range 256 {
		if kind >= 1 && kind <= 3 {
			continue
		}
		for _, e := range one() {
			s := with(encoded(e), 0, string([]byte{byte(kind)}))
			for size := 1; size <= len(s); size++ {
				refused(t, s[:size], api.ErrForm)
			}
		}
		refused(t, string([]byte{byte(kind)})+long(5000), api.ErrForm)
	}
}

// P6.1: whole, but of no entry.
func TestDecodeForm(t *testing.T) {
	for _, e := range one() {
		s := encoded(e)
		refused(t, with(s, 1, "\x00\x00\x00\x00"), api.ErrForm)
		for _, index := range []string{"\x03\xe8", "\x10\x06", "\xff\xff"} {
			refused(t, with(s, 5, index), api.ErrForm)
		}
	}
	stage := encoded(one()[0])
	for _, kind := range []string{"\x00", "\x05", "\x06", "\x82", "\xff"} {
		refused(t, with(stage, 7, kind), api.ErrForm)
	}
	for _, number := range []string{"\x03\xe8", "\x10\x07", "\xff\xff"} {
		refused(t, with(stage, 8, number), api.ErrForm)
		refused(t, with(stage[:10], 7, "\x00"+number), api.ErrForm)
	}
	commit := encoded(one()[1])
	for _, count := range []string{"\x00\x00", "\x00\x05", "\x00\x07", "\x06\x00", "\x03\xe8", "\x01\x06"} {
		refused(t, with(commit, 7, count), api.ErrForm)
	}
	for _, both := range []string{"\x00\x00\x00\x00", "\x03\xe8\x03\xe8", "\xff\xff\xff\xff"} {
		refused(t, with(commit, 5, both), api.ErrForm)
	}
}

// P6.1: bytes behind its end.
func TestDecodeLong(t *testing.T) {
	for _, e := range one()[1:] {
		for _, size := range []int{1, 2, 3, 6, 230, 4096, 5000} {
			refused(t, encoded(e)+strings.Repeat("\x00", size), api.ErrForm)
			refused(t, encoded(e)+long(size), api.ErrForm)
		}
	}
	s := encoded(one()[0])[:10]
	for _, size := range []int{231, 232, 244, 4086, 4087, 4096, 65536} {
		refused(t, s+long(size), api.ErrForm)
	}
}

// P6.3: of any bytes, what is read is what was written.
func TestDecodeOfAnything(t *testing.T) {
	r := rand.New(rand.NewSource(1))
	whole := 0
	for range 200000 {
		b := make([]byte, r.Intn(16))
		for i := range b {
			b[i] = byte(r.Intn(5) * r.Intn(2))
		}
		e, err := entry.Decode(string(b))
		if err != api.OK {
			refused(t, string(b), err)
			continue
		}
		whole++
		if s, err := entry.Encode(e); s != string(b) || err != api.OK || entry.Check(e) != api.OK {
			t.Fatalf("%x is read as %+v, which is written as %x, %d", b, e, s, err)
		}
	}
	if whole < 100 {
		t.Errorf("just %d of the texts were entries", whole)
	}
}

// summed says it word by word as the document does.
func summed(l []api.Page) uint32 {
	var all string
	for i, p := range l {
		e := entry.Entry{Kind: entry.Stage, Tx: 1, Index: i, Page: p}
		if entry.Check(e) == api.OK {
			all += encoded(e)
		}
	}
	return crc32.ChecksumIEEE([]byte(all))
}

func sums(t *testing.T, l []api.Page, want uint32) {
	t.Helper()
	if n := entry.Sum(l); n != want {
		t.Errorf("Sum of %d pages: %x, want %x", len(l), n, want)
	}
}

// P6.2: byte for byte, so that the test's own way of summing is seen to be right.
func TestSumByHand(t *testing.T) {
	sums(t, nil, 0)
	sums(t, []api.Page{}, 0)
	first := "\x01\x00\x00\x00\x01\x00\x00\x02\x00\x07ab"
	sums(t, []api.Page{{Kind: 2, Number: 7, Body: "ab"}}, crc32.ChecksumIEEE([]byte(first)))
	second := "\x01\x00\x00\x00\x01\x00\x01\x00\x03\xe7"
	sums(t, []api.Page{{Kind: 2, Number: 7, Body: "ab"}, {Number: 999}}, crc32.ChecksumIEEE([]byte(first+second)))
	third := "\x01\x00\x00\x00\x01\x00\x02\x04\x00\x00"
	sums(t, []api.Page{{Kind: 2, Number: 7, Body: "ab"}, {Kind: 5}, {Kind: 4}}, crc32.ChecksumIEEE([]byte(first+third)))
}

// P6.2: a page that may not be staged leaves its place to none.
func TestSum(t *testing.T) {
	good := staged()
	for size := range len(good) {
		sums(t, good[:size], summed(good[:size]))
	}
	for i, p := range unstaged() {
		sums(t, []api.Page{p}, 0)
		at := i % len(good)
		l := append(append(append([]api.Page{}, good[:at]...), p), good[at:]...)
		sums(t, l, summed(l))
	}
}

// P6.2: places above 999 count for nothing.
func TestSumOfMany(t *testing.T) {
	l := make([]api.Page, 1100)
	for i := range l {
		l[i] = api.Page{Kind: 1 + i%4, Number: (7 * i) % 1000, Body: long(i % 5)}
	}
	for _, size := range []int{255, 256, 257, 999, 1000} {
		sums(t, l[:size], summed(l[:size]))
	}
	if entry.Sum(l[:1000]) == entry.Sum(l[:999]) {
		t.Error("the page at place 999 counts for nothing")
	}
	sums(t, l[:1001], entry.Sum(l[:1000]))
	sums(t, l, entry.Sum(l[:1000]))
}

// R5, R6
func TestAgainTheSame(t *testing.T) {
	l := append(make([]api.Page, 0, 200), staged()...)
	before := append([]api.Page{}, l...)
	first := entry.Sum(l)
	entry.Encode(entry.Entry{Kind: 9})
	entry.Decode("\x09")
	sums(t, l, first)
	for i, p := range l {
		if p != before[i] {
			t.Errorf("page %d was changed", i)
		}
	}
	for _, p := range l[len(l):cap(l)] {
		if p != (api.Page{}) {
			t.Errorf("the list's spare room was changed: %v", p)
		}
	}
}
