// Package sum32 is layer 2, sums of bytes, and how they are put together: see shared/doc/02-sum32.md.
package sum32

const (
	start = 0xffffffff // what a sum begins from, and what is turned at its end
	turns = 0xedb88320 // what a step turns in a number that was odd
)

// matrix is so many steps at once: what they make of each bit alone, the lowest one first.
// Steps are linear: what they make of a number is what they make of its bits, put together by xor.
type matrix [32]uint32

// Sum is a text's.
func Sum(s string) uint32 { return along(start, s) ^ start }

// Join is the sum of two texts, of their sums, and how long the second one is.
func Join(a uint32, b uint32, size int) uint32 {
	// b has a start of its own, gone on as far as that of a, and is turned at its end as a is: each pair of these is 0
	return past(a, size) ^ b
}

// Zeros is the sum of a text and so many bytes 0 behind it.
func Zeros(a uint32, size int) uint32 { return past(a^start, size) ^ start }

// Turned is the sum of a text as long as another one, of which bytes were turned, ahead of so many others.
func Turned(a uint32, turned string, behind int) uint32 {
	// what differs goes on by itself, whatever the text: from 0, as nothing differs ahead of it
	return a ^ past(along(0, turned), behind)
}

// along is a number gone on with each byte of a text.
func along(n uint32, s string) uint32 {
	for i := range len(s) {
		n = eight(n ^ uint32(s[i]))
	}
	return n
}

// past is a number gone on with so many bytes 0; below 1 it is as it was.
func past(n uint32, size int) uint32 {
	m := oneByte()
	for ; size > 0; size >>= 1 {
		if size&1 == 1 {
			n = m.of(n)
		}
		m = m.twice()
	}
	return n
}

func step(n uint32) uint32 { return n>>1 ^ (n&1)*turns }

func eight(n uint32) uint32 {
	for range 8 {
		n = step(n)
	}
	return n
}

// oneByte is the eight steps of a byte 0.
func oneByte() matrix {
	var m matrix
	for i := range m {
		m[i] = eight(1 << i)
	}
	return m
}

// of is what the steps make of a number.
func (m matrix) of(n uint32) uint32 {
	var out uint32
	for i, made := range m {
		out ^= (n >> i & 1) * made
	}
	return out
}

// twice is the matrix multiplied with itself: its steps, and as many again.
func (m matrix) twice() matrix {
	var out matrix
	for i, made := range m {
		out[i] = m.of(made)
	}
	return out
}
