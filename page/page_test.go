package page_test

import (
	"encoding/binary"
	"hash/crc32"
	"math"
	"strings"
	"testing"

	"cadastre/api"
	"cadastre/page"
)

// pages are some that may be.
func pages() []api.Page {
	var out []api.Page
	for _, kind := range []int{1, 2, 3, 4, 5} {
		for _, number := range []int{0, 1, 255, 256, 998, 999} {
			for _, body := range bodies() {
				out = append(out, api.Page{Kind: kind, Number: number, Body: body})
			}
		}
	}
	return out
}

func bodies() []string {
	return []string{"", "\x00", "x", "\xff\x00", "\x00\x00\x01", "é", long(243), long(244), strings.Repeat("\x00", 244), strings.Repeat("\xff", 244)}
}

// long is a text of so many bytes, no two behind each other alike.
func long(size int) string {
	b := make([]byte, size)
	for i := range b {
		b[i] = byte(i*7 + i>>8 + 1)
	}
	return string(b)
}

// sealed says it word by word as the document does.
func sealed(p api.Page) string {
	b := []byte{byte(p.Kind), 0}
	b = binary.BigEndian.AppendUint16(b, uint16(len(p.Body)))
	b = binary.BigEndian.AppendUint32(b, uint32(p.Number))
	b = append(b, p.Body...)
	for len(b) < 252 {
		b = append(b, 0)
	}
	return summed(string(b))
}

// summed has the sum behind its first 252 bytes, whatever these are.
func summed(s string) string {
	b := []byte(s[:252])
	return string(binary.LittleEndian.AppendUint32(b, crc32.ChecksumIEEE(b)))
}

// with has other bytes from at on.
func with(s string, at int, bytes string) string {
	return s[:at] + bytes + s[at+len(bytes):]
}

func seal(t *testing.T, p api.Page) string {
	t.Helper()
	s, e := page.Seal(p)
	if e != api.OK {
		t.Fatalf("Seal(%v): %d", p, e)
	}
	return s
}

// refused expects of Open an error, and nothing beside it.
func refused(t *testing.T, s string, want api.Errno, what string) {
	t.Helper()
	if p, e := page.Open(s); e != want || p != (api.Page{}) {
		t.Errorf("Open of %s: %v, %d, want %d", what, p, e, want)
	}
}

// P3.1
func TestSeal(t *testing.T) {
	for _, p := range pages() {
		if s := seal(t, p); s != sealed(p) {
			t.Errorf("Seal(%v): %x, want %x", p, s, sealed(p))
		}
	}
}

// P3.1: byte for byte, so that the test's own way of sealing is seen to be right.
func TestSealByHand(t *testing.T) {
	s := seal(t, api.Page{Kind: 2, Number: 258, Body: "ab"})
	if s[:10] != "\x02\x00\x00\x02\x00\x00\x01\x02ab" || s[10:252] != strings.Repeat("\x00", 242) {
		t.Errorf("%x", s)
	}
	sum := crc32.ChecksumIEEE([]byte(s[:252]))
	for i := range 4 {
		if s[252+i] != byte(sum>>(8*i)) {
			t.Errorf("the sum %x stands as %x", sum, s[252:])
		}
	}
}

// P3.1
func TestSealRefuses(t *testing.T) {
	good := api.Page{Kind: 1, Number: 0, Body: "x"}
	var wrong []api.Page
	for _, kind := range []int{math.MinInt, -255, -1, 0, 6, 7, 256, 257, 1<<32 + 1, math.MaxInt} {
		p := good
		p.Kind = kind
		wrong = append(wrong, p)
	}
	for _, number := range []int{math.MinInt, -1 << 32, -1, 1000, 1001, 1 << 32, math.MaxInt} {
		p := good
		p.Number = number
		wrong = append(wrong, p)
	}
	for _, size := range []int{245, 246, 256, 4097, 65536, 65537} {
		p := good
		p.Body = long(size)
		wrong = append(wrong, p)
	}
	wrong = append(wrong, api.Page{})
	for _, p := range wrong {
		if s, e := page.Seal(p); s != "" || e != api.BadRequest {
			t.Errorf("Seal of kind %d, number %d, %d bytes: %d bytes, %d", p.Kind, p.Number, len(p.Body), len(s), e)
		}
	}
}

// P3.1, P3.2
func TestBlank(t *testing.T) {
	if s := page.Blank(); s != strings.Repeat("\x00", 256) {
		t.Errorf("Blank: %x", s)
	}
	if p, e := page.Open(page.Blank()); p != (api.Page{Kind: api.PageFree}) || e != api.OK {
		t.Errorf("Open of Blank: %v, %d", p, e)
	}
}

// P3.2
func TestOpenCut(t *testing.T) {
	s := sealed(api.Page{Kind: 5, Number: 999, Body: long(244)})
	for size := range 256 {
		refused(t, s[:size], api.ErrCut, "a page that is cut")
		refused(t, page.Blank()[:size], api.ErrCut, "a blank page that is cut")
	}
	for _, longer := range []string{s + "\x00", s + s, page.Blank() + "\x00", strings.Repeat("\x00", 5000)} {
		refused(t, longer, api.ErrCut, "a page with bytes behind it")
	}
}

// P3.2: the sum is looked at ahead of all that it is the sum of.
func TestOpenSum(t *testing.T) {
	s := sealed(api.Page{Kind: 2, Number: 7, Body: "body"})
	for at := range 256 {
		for _, turn := range []byte{1, 0x80, 0xff} {
			refused(t, with(s, at, string([]byte{s[at] ^ turn})), api.ErrSum, "a page with a byte turned")
		}
	}
	sum := s[252:]
	refused(t, with(s, 252, string([]byte{sum[3], sum[2], sum[1], sum[0]})), api.ErrSum, "a sum with its highest byte first")
	refused(t, with(s, 252, "\x00\x00\x00\x00"), api.ErrSum, "a page without a sum")
	refused(t, strings.Repeat("\xee", 256), api.ErrSum, "a page of bytes ee")
	for at := range 256 {
		refused(t, with(page.Blank(), at, "\x01"), api.ErrSum, "a blank page with a bit turned")
	}
}

// P3.2: the sum is right, but Seal makes no such page.
func TestOpenForm(t *testing.T) {
	s := sealed(api.Page{Kind: 2, Number: 7, Body: "body"})
	refused(t, summed(page.Blank()), api.ErrForm, "bytes 0 with their sum")
	for _, kind := range []string{"\x00", "\x06", "\x07", "\x80", "\xff"} {
		refused(t, summed(with(s, 0, kind)), api.ErrForm, "a kind that there is not")
	}
	for n := 1; n < 256; n++ {
		refused(t, summed(with(s, 1, string([]byte{byte(n)}))), api.ErrForm, "a page with a byte 1 that is not 0")
	}
	for _, size := range []string{"\x00\x00", "\x00\x03", "\x00\xf5", "\x00\xf6", "\x00\xf8", "\x00\xf9", "\x01\x00", "\x04\x04", "\xff\xff"} {
		refused(t, summed(with(s, 2, size)), api.ErrForm, "a size that is too small or too great")
	}
	for _, number := range []string{"\x00\x00\x03\xe8", "\x00\x01\x00\x07", "\x01\x00\x00\x07", "\x80\x00\x00\x07", "\xff\xff\xff\xff"} {
		refused(t, summed(with(s, 4, number)), api.ErrForm, "a number that is too great")
	}
	for at := 12; at < 252; at++ {
		refused(t, summed(with(s, at, "\x01")), api.ErrForm, "a page with bytes behind its body")
	}
}

// P3.2: what may be is opened, whoever sealed it.
func TestOpenOfOthers(t *testing.T) {
	s := sealed(api.Page{Kind: 2, Number: 7, Body: "body"})
	for size := 4; size <= 244; size++ {
		want := api.Page{Kind: 2, Number: 7, Body: "body" + strings.Repeat("\x00", size-4)}
		if p, e := page.Open(summed(with(s, 3, string([]byte{byte(size)})))); p != want || e != api.OK {
			t.Errorf("a body of %d bytes: %v, %d", size, p, e)
		}
	}
}

// P3.4
func TestSealedIsOpened(t *testing.T) {
	for _, want := range pages() {
		if p, e := page.Open(seal(t, want)); p != want || e != api.OK {
			t.Errorf("Open of the sealed %v: %v, %d", want, p, e)
		}
	}
	for size := range 245 {
		want := api.Page{Kind: 3, Number: 500, Body: long(size)}
		if p, e := page.Open(seal(t, want)); p != want || e != api.OK {
			t.Errorf("Open of the sealed %v: %v, %d", want, p, e)
		}
	}
}

// turn has so many bits from the one at on turned where those of n are 1, the lowest bit of a byte first.
func turn(s string, at int, size int, n uint64) string {
	b := []byte(s)
	for i := range size {
		b[(at+i)/8] ^= byte(n>>i&1) << ((at + i) % 8)
	}
	return string(b)
}

// P3.4
func TestTurnedIsRefused(t *testing.T) {
	s := seal(t, api.Page{Kind: 4, Number: 321, Body: long(200)})
	n := uint64(1)
	for size := 1; size <= 32; size++ {
		for at := 0; at+size <= 8*256; at++ {
			n = n*6364136223846793005 + 1442695040888963407
			bits := n>>32&(1<<size-1) | 1 | 1<<(size-1) // the first and the last one are turned
			if p, e := page.Open(turn(s, at, size, bits)); e != api.ErrSum || p != (api.Page{}) {
				t.Fatalf("%d bits from %d on turned by %x: %v, %d", size, at, bits, p, e)
			}
		}
	}
}

// P3.3
func TestTorn(t *testing.T) {
	for _, s := range []string{sealed(api.Page{Kind: 1, Number: 2, Body: long(244)}), page.Blank(), long(256), strings.Repeat("\xee", 256)} {
		for at := 0; at <= 256; at++ {
			want := s[:at] + strings.Repeat("\xee", 256-at)
			if torn, e := page.Torn(s, at); torn != want || e != api.OK {
				t.Errorf("Torn at %d: %x, %d", at, torn, e)
			}
		}
	}
}

// P3.3
func TestTornRefuses(t *testing.T) {
	for _, at := range []int{math.MinInt, -256, -1, 257, 258, 512, math.MaxInt} {
		if s, e := page.Torn(page.Blank(), at); s != "" || e != api.BadRequest {
			t.Errorf("Torn at %d: %d bytes, %d", at, len(s), e)
		}
	}
	for _, size := range []int{0, 1, 255, 257, 512, 4097} {
		for _, at := range []int{-1, 0, 1, 255, 256, 257, size} {
			if s, e := page.Torn(long(size), at); s != "" || e != api.BadRequest {
				t.Errorf("Torn of %d bytes at %d: %d bytes, %d", size, at, len(s), e)
			}
		}
	}
}

// R6
func TestAgainTheSame(t *testing.T) {
	p := api.Page{Kind: 5, Number: 999, Body: long(100)}
	first := seal(t, p)
	page.Open(with(first, 9, "\x00\x00"))
	page.Seal(api.Page{Kind: 1})
	if again := seal(t, p); again != first {
		t.Errorf("sealed again: %x, at first %x", again, first)
	}
}
