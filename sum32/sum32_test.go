package sum32_test

import (
	"hash/crc32"
	"math"
	"strings"
	"testing"

	"cadastre/sum32"
)

var texts = []string{"", "\x00", "a", "\xff", "\x00\x00", "ab", "123456789", "\x00\x01\xfe\xff", "é", strings.Repeat("\x00", 300), strings.Repeat("cadastre ", 30)}

// below1 are sizes that are held to be 0.
var below1 = []int{math.MinInt, math.MinInt32, -8, -1, 0}

const greatest = 1<<31 - 1

// bySteps says it word by word as the document does.
func bySteps(s string) uint32 {
	n := uint32(0xffffffff)
	for _, b := range []byte(s) {
		n ^= uint32(b)
		for range 8 {
			odd := n%2 == 1
			n /= 2
			if odd {
				n ^= 0xedb88320
			}
		}
	}
	return ^n
}

func zeros(size int) string { return strings.Repeat("\x00", size) }

// turn has the bytes of s from at on turned by those of turned.
func turn(s string, at int, turned string) string {
	b := []byte(s)
	for i := range len(turned) {
		b[at+i] ^= turned[i]
	}
	return string(b)
}

// P2.1
func TestSum(t *testing.T) {
	for s, want := range map[string]uint32{"": 0, "123456789": 0xcbf43926, "a": 0xe8b7be43, "\x00": 0xd202ef8d} {
		if n := sum32.Sum(s); n != want {
			t.Errorf("Sum(%q): %x, want %x", s, n, want)
		}
	}
	all := texts
	for b := range 256 {
		all = append(all, string([]byte{byte(b)}), string([]byte{'x', byte(b), 0}))
	}
	for _, s := range all {
		if n, want := sum32.Sum(s), bySteps(s); n != want || n != crc32.ChecksumIEEE([]byte(s)) {
			t.Errorf("Sum(%q): %x, want %x", s, n, want)
		}
	}
}

// P2.2
func TestZeros(t *testing.T) {
	for _, s := range texts {
		for _, size := range []int{1, 2, 3, 7, 8, 9, 31, 32, 33, 255, 256, 4097} {
			if n, want := sum32.Zeros(sum32.Sum(s), size), sum32.Sum(s+zeros(size)); n != want {
				t.Errorf("Zeros(%q, %d): %x, want %x", s, size, n, want)
			}
		}
	}
	for _, a := range []uint32{0, 1, 7, 0xcbf43926, 1<<32 - 1} {
		for _, size := range below1 {
			if n := sum32.Zeros(a, size); n != a {
				t.Errorf("Zeros(%x, %d): %x", a, size, n)
			}
		}
	}
}

// P2.3
func TestJoin(t *testing.T) {
	for _, a := range texts {
		for _, b := range texts {
			if n, want := sum32.Join(sum32.Sum(a), sum32.Sum(b), len(b)), sum32.Sum(a+b); n != want {
				t.Errorf("Join(%q, %q): %x, want %x", a, b, n, want)
			}
		}
	}
	for _, size := range below1 {
		if n := sum32.Join(0xcbf43926, 0, size); n != 0xcbf43926 {
			t.Errorf("Join(.., 0, %d): %x", size, n)
		}
		if n := sum32.Join(5, 9, size); n != sum32.Join(5, 9, 0) {
			t.Errorf("Join(5, 9, %d): %x", size, n)
		}
	}
}

// P2.4
func TestTurned(t *testing.T) {
	const s = "123456789"
	for _, turned := range []string{"", "\x00", "\x01", "\x80", "\xff\x00", "\x01\x00\x02", "\x00\x00\x00\x10", "123456789"} {
		for behind := 0; behind+len(turned) <= len(s); behind++ {
			at := len(s) - behind - len(turned)
			if n, want := sum32.Turned(sum32.Sum(s), turned, behind), sum32.Sum(turn(s, at, turned)); n != want {
				t.Errorf("Turned(%q, %d): %x, want %x", turned, behind, n, want)
			}
		}
		for _, behind := range below1 {
			if n, want := sum32.Turned(77, turned, behind), sum32.Turned(77, turned, 0); n != want {
				t.Errorf("Turned(%q, %d): %x, want %x", turned, behind, n, want)
			}
		}
	}
}

// P2.4: a sum that no text of so many bytes has (one of one byte has but 256) is turned as that of any other text.
func TestTurnedOfNoText(t *testing.T) {
	for _, a := range []uint32{0, 1, 0x12345678, 1<<32 - 1} {
		for bits := range 256 {
			turned := string([]byte{byte(bits)})
			if n, want := sum32.Turned(a, turned, 0), a^sum32.Sum("x")^sum32.Sum(turn("x", 0, turned)); n != want {
				t.Errorf("Turned(%x, %q, 0): %x, want %x", a, turned, n, want)
			}
			if n, want := sum32.Turned(a, turned, 2), a^sum32.Sum("xyz")^sum32.Sum(turn("xyz", 0, turned)); n != want {
				t.Errorf("Turned(%x, %q, 2): %x, want %x", a, turned, n, want)
			}
		}
	}
}

// P2.2 to P2.4: of the greatest size there are so many calls that they would not end if each byte were gone on with.
// The bits of a byte 0 come round behind 2^32 - 1 bytes, and no sooner: twice the greatest size, and one more.
func TestGreatestSize(t *testing.T) {
	for i := range uint32(1000) {
		a := i * 0x9e3779b9
		half := sum32.Zeros(a, greatest)
		if n := sum32.Zeros(sum32.Zeros(half, greatest), 1); n != a {
			t.Fatalf("Zeros(%x, ..): once round %x", a, n)
		}
		if n := sum32.Zeros(sum32.Zeros(a, greatest-1000), 1000); n != half {
			t.Fatalf("Zeros(%x, ..) in two: %x, want %x", a, n, half)
		}
		if n := sum32.Join(a, sum32.Zeros(0, greatest), greatest); n != half {
			t.Fatalf("Join(%x, ..): %x, want %x", a, n, half)
		}
		was, is := sum32.Zeros(sum32.Sum("a"), greatest), sum32.Zeros(sum32.Sum("b"), greatest)
		if n := sum32.Turned(was, "\x03", greatest); n != is {
			t.Fatalf("Turned(..): %x, want %x", n, is)
		}
	}
}

// R1: beyond the bound nothing is promised, but that each call ends.
func TestEnds(t *testing.T) {
	for _, size := range []int{greatest + 1, math.MaxInt - 1, math.MaxInt, math.MinInt} {
		sum32.Zeros(1, size)
		sum32.Join(1, 2, size)
		sum32.Turned(1, "ab", size)
	}
}

// P2.5: one by one or all at once.
func TestJoinedAnyhow(t *testing.T) {
	s := strings.Repeat("cadastre\x00\xff", 9)
	var byOne, ofTwo uint32
	for i := range len(s) {
		byOne = sum32.Join(byOne, sum32.Sum(s[i:i+1]), 1)
	}
	for i := range len(s) + 1 {
		ofTwo = sum32.Join(sum32.Sum(s[:i]), sum32.Sum(s[i:]), len(s)-i)
		if ofTwo != sum32.Sum(s) {
			t.Errorf("cut at %d: %x, want %x", i, ofTwo, sum32.Sum(s))
		}
	}
	if byOne != sum32.Sum(s) {
		t.Errorf("one by one: %x, want %x", byOne, sum32.Sum(s))
	}
}

// P2.5: turned twice alike it is as it was.
func TestTurnedTwice(t *testing.T) {
	for _, turned := range texts {
		for _, behind := range []int{-1, 0, 1, 5, 244, greatest} {
			if n := sum32.Turned(sum32.Turned(0xcbf43926, turned, behind), turned, behind); n != 0xcbf43926 {
				t.Errorf("Turned(%q, %d) twice: %x", turned, behind, n)
			}
		}
	}
}

// P2.5: a turn of at most 32 bits that stand one behind the other is seen, wherever it begins in a byte.
func TestTurnIsSeen(t *testing.T) {
	for first := range 8 {
		for size := 1; size <= 32; size++ {
			for _, inner := range []uint64{0, 0x5555555555555555, 0x0f0f0f0f0f0f0f0f, math.MaxUint64} {
				bits := (inner&(1<<size-1) | 1 | 1<<(size-1)) << first
				var turned []byte
				for ; bits > 0; bits >>= 8 {
					turned = append(turned, byte(bits))
				}
				for _, behind := range []int{0, 1, 200, greatest} {
					if n := sum32.Turned(0xcbf43926, string(turned), behind); n == 0xcbf43926 {
						t.Errorf("Turned(%x, %d): not seen", turned, behind)
					}
				}
			}
		}
	}
}

// R6
func TestSameAgain(t *testing.T) {
	told := func() [4]uint32 {
		return [4]uint32{sum32.Sum("ab"), sum32.Zeros(1, 9), sum32.Join(1, 2, 9), sum32.Turned(1, "xy", 3)}
	}
	first := told()
	for range 20 {
		if again := told(); again != first {
			t.Fatalf("%x, ahead of that %x", again, first)
		}
	}
}
