package field_test

import (
	"math"
	"strings"
	"testing"

	"cadastre/api"
	"cadastre/field"
)

// places are arguments beside and in an area of a few bytes, and those whose sums are more than an int holds.
var places = []int{math.MinInt, math.MinInt + 1, -4097, -2, -1, 0, 1, 2, 3, 4, 5, 6, 7, 8, 4096, 4097, math.MaxInt - 1, math.MaxInt}

// numbers are the edges of what fits into 1, 2 and 4 bytes.
var numbers = []uint32{0, 1, 127, 128, 255, 256, 258, 65535, 65536, 0x01020304, 1 << 31, 1<<32 - 1}

func of(t *testing.T, s string) *field.Area {
	t.Helper()
	a, e := field.Of(s)
	if a == nil || e != api.OK {
		t.Fatalf("Of(%q): %v, %d", s, a, e)
	}
	return a
}

// isRange says it as the document does, in numbers that do not wrap round.
func isRange(at int, size int, all int) bool {
	return at >= 0 && size >= 0 && uint64(at)+uint64(size) <= uint64(all)
}

func expect(t *testing.T, a *field.Area, want string, what string, arguments ...any) {
	t.Helper()
	if a.Bytes() != want || a.Size() != len(want) {
		t.Errorf(what+": %q of %d bytes, want %q", append(arguments, a.Bytes(), a.Size(), want)...)
	}
}

// P1.1
func TestNew(t *testing.T) {
	for _, size := range []int{0, 1, 2, 255, 256, 4095, 4096} {
		a, e := field.New(size)
		if a == nil || e != api.OK {
			t.Fatalf("New(%d): %v, %d", size, a, e)
		}
		expect(t, a, strings.Repeat("\x00", size), "New(%d)", size)
	}
	for _, size := range []int{math.MinInt, -4096, -1, 4097, 8192, math.MaxInt} {
		if a, e := field.New(size); a != nil || e != api.BadRequest {
			t.Errorf("New(%d): %v, %d", size, a, e)
		}
	}
}

// P1.1
func TestOf(t *testing.T) {
	for _, s := range []string{"", "x", "\x00\xff", "é", strings.Repeat("ab", 2047), strings.Repeat("ab", 2048)} {
		expect(t, of(t, s), s, "Of(%d bytes)", len(s))
	}
	for _, size := range []int{4097, 5000} {
		if a, e := field.Of(strings.Repeat("x", size)); a != nil || e != api.BadRequest {
			t.Errorf("Of(%d bytes): %v, %d", size, a, e)
		}
	}
}

// P1.2
func TestPut(t *testing.T) {
	for size := 0; size <= 6; size++ {
		for _, at := range places {
			for _, width := range places {
				for _, n := range numbers {
					was := "abcdef"[:size]
					a := of(t, was)
					e, want := a.Put(at, width, n), was
					if wide := width == 1 || width == 2 || width == 4; wide && isRange(at, width, size) && (width == 4 || n < 1<<(8*width)) {
						all := string([]byte{byte(n >> 24), byte(n >> 16), byte(n >> 8), byte(n)})
						want = was[:at] + all[4-width:] + was[at+width:]
						if e != api.OK {
							t.Errorf("Put(%d, %d, %d) in %d bytes: %d", at, width, n, size, e)
						}
					} else if e != api.BadRequest {
						t.Errorf("Put(%d, %d, %d) in %d bytes: %d", at, width, n, size, e)
					}
					expect(t, a, want, "Put(%d, %d, %d)", at, width, n)
				}
			}
		}
	}
}

// P1.2
func TestPutExample(t *testing.T) {
	a, _ := field.New(4)
	if e := a.Put(1, 2, 258); e != api.OK {
		t.Errorf("Put: %d", e)
	}
	expect(t, a, "\x00\x01\x02\x00", "Put(1, 2, 258)")
}

// P1.2
func TestGet(t *testing.T) {
	const bytes = "\x80\x01\xff\x00\x7f\xfe"
	for size := 0; size <= len(bytes); size++ {
		a := of(t, bytes[:size])
		for _, at := range places {
			for _, width := range places {
				want, wantE := uint32(0), api.BadRequest
				if (width == 1 || width == 2 || width == 4) && isRange(at, width, size) {
					wantE = api.OK
					for _, b := range []byte(bytes[at : at+width]) {
						want = want*256 + uint32(b)
					}
				}
				if n, e := a.Get(at, width); n != want || e != wantE {
					t.Errorf("Get(%d, %d) of %d bytes: %x, %d; want %x, %d", at, width, size, n, e, want, wantE)
				}
			}
		}
		expect(t, a, bytes[:size], "Get")
	}
}

// P1.3
func TestPutText(t *testing.T) {
	for size := 0; size <= 6; size++ {
		for _, at := range places {
			for put := range 8 {
				was, s := "abcdef"[:size], "\x00ZYXWVUT"[:put]
				a := of(t, was)
				want, wantE := was, api.BadRequest
				if isRange(at, put, size) {
					want, wantE = was[:at]+s+was[at+put:], api.OK
				}
				if e := a.PutText(at, s); e != wantE {
					t.Errorf("PutText(%d, %q) in %d bytes: %d", at, s, size, e)
				}
				expect(t, a, want, "PutText(%d, %q)", at, s)
			}
		}
	}
}

// P1.3
func TestGetText(t *testing.T) {
	for size := 0; size <= 6; size++ {
		was := "\x00bcde\xff"[:size]
		a := of(t, was)
		for _, at := range places {
			for _, got := range places {
				want, wantE := "", api.BadRequest
				if isRange(at, got, size) {
					want, wantE = was[at:at+got], api.OK
				}
				if s, e := a.GetText(at, got); s != want || e != wantE {
					t.Errorf("GetText(%d, %d) of %d bytes: %q, %d; want %q, %d", at, got, size, s, e, want, wantE)
				}
			}
		}
		expect(t, a, was, "GetText")
	}
}

// P1.3: one that overlaps itself, too, upward and downward.
func TestMove(t *testing.T) {
	for size := 0; size <= 6; size++ {
		was := "abcdef"[:size]
		for _, to := range places {
			for _, from := range places {
				for _, moved := range places {
					a := of(t, was)
					want, wantE := was, api.BadRequest
					if isRange(to, moved, size) && isRange(from, moved, size) {
						want, wantE = was[:to]+was[from:from+moved]+was[to+moved:], api.OK
					}
					if e := a.Move(to, from, moved); e != wantE {
						t.Errorf("Move(%d, %d, %d) of %d bytes: %d", to, from, moved, size, e)
					}
					expect(t, a, want, "Move(%d, %d, %d)", to, from, moved)
				}
			}
		}
	}
}

// P1.3, P1.4: at the far end of the greatest area.
func TestGreatest(t *testing.T) {
	a, _ := field.New(4096)
	if e := a.Put(4092, 4, 0x01020304); e != api.OK {
		t.Errorf("Put: %d", e)
	}
	if e := a.Put(4093, 4, 0); e != api.BadRequest {
		t.Errorf("Put beyond the end: %d", e)
	}
	if e := a.Move(0, 1, 4095); e != api.OK {
		t.Errorf("Move: %d", e)
	}
	if n, e := a.Get(4091, 4); n != 0x01020304 || e != api.OK {
		t.Errorf("Get: %x, %d", n, e)
	}
	if s, e := a.GetText(4090, 6); s != "\x00\x01\x02\x03\x04\x04" || e != api.OK {
		t.Errorf("GetText: %q, %d", s, e)
	}
	if e := a.PutText(0, strings.Repeat("x", 4096)); e != api.OK {
		t.Errorf("PutText: %d", e)
	}
	expect(t, a, strings.Repeat("x", 4096), "PutText")
	if e := a.PutText(0, strings.Repeat("y", 4097)); e != api.BadRequest {
		t.Errorf("PutText beyond the end: %d", e)
	}
	expect(t, a, strings.Repeat("x", 4096), "PutText beyond the end")
}

// P1.4: what is put is got, bytes beside it stay.
func TestPutIsGot(t *testing.T) {
	for _, width := range []int{1, 2, 4} {
		for at := 0; at+width <= 6; at++ {
			for _, n := range numbers {
				a := of(t, "abcdef")
				if a.Put(at, width, n) != api.OK {
					continue
				}
				if got, e := a.Get(at, width); got != n || e != api.OK {
					t.Errorf("Put(%d, %d, %d): got %d, %d", at, width, n, got, e)
				}
				ahead, _ := a.GetText(0, at)
				behind, _ := a.GetText(at+width, 6-at-width)
				if ahead != "abcdef"[:at] || behind != "abcdef"[at+width:] {
					t.Errorf("Put(%d, %d, %d): beside it %q, %q", at, width, n, ahead, behind)
				}
			}
		}
	}
}

// P1.1, R1, R3
func TestNil(t *testing.T) {
	var a *field.Area
	for _, at := range places {
		for _, size := range places {
			if e := a.Put(at, size, 0); e != api.BadRequest {
				t.Errorf("Put(%d, %d): %d", at, size, e)
			}
			if n, e := a.Get(at, size); n != 0 || e != api.BadRequest {
				t.Errorf("Get(%d, %d): %d, %d", at, size, n, e)
			}
			if s, e := a.GetText(at, size); s != "" || e != api.BadRequest {
				t.Errorf("GetText(%d, %d): %q, %d", at, size, s, e)
			}
			if e := a.Move(at, at, size); e != api.BadRequest {
				t.Errorf("Move(%d, %d): %d", at, size, e)
			}
		}
		for _, s := range []string{"", "x"} {
			if e := a.PutText(at, s); e != api.BadRequest {
				t.Errorf("PutText(%d, %q): %d", at, s, e)
			}
		}
	}
	if a.Bytes() != "" || a.Size() != 0 {
		t.Errorf("%q, %d", a.Bytes(), a.Size())
	}
}

// R5: what was told stays as it was told, and no area shares bytes with another one.
func TestNewMemory(t *testing.T) {
	s := strings.Repeat("ab", 3)
	a, b := of(t, s), of(t, s)
	all := a.Bytes()
	text, _ := a.GetText(1, 4)
	if e := a.PutText(0, "zzzzzz"); e != api.OK {
		t.Errorf("PutText: %d", e)
	}
	if s != "ababab" || all != "ababab" || text != "baba" {
		t.Errorf("%q, %q, %q", s, all, text)
	}
	expect(t, b, "ababab", "another one")
}

// R6
func TestSameAgain(t *testing.T) {
	told := func() []any {
		a := of(t, "abcdef")
		e1, e2, e3 := a.Put(1, 2, 513), a.Put(5, 2, 1), a.Move(2, 0, 4)
		n, e4 := a.Get(2, 4)
		s, e5 := a.GetText(3, 9)
		return []any{e1, e2, e3, n, e4, s, e5, a.Bytes(), a.Size()}
	}
	first := told()
	for range 20 {
		for i, x := range told() {
			if x != first[i] {
				t.Fatalf("%d: %v, ahead of that %v", i, x, first[i])
			}
		}
	}
}
