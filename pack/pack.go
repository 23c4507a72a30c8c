// Package pack is layer 1: it encodes integers and strings, decodes them, and computes a checksum.
package pack

const (
	groupBits = 7    // bits of an integer in each byte of its encoding
	more      = 0x80 // in every byte of an encoding except the last one
	maxBytes  = 10   // bytes of the longest encoding of an integer

	polynomial uint32 = 0xEDB88320
)

// Num returns b followed by the encoding of x.
func Num(b []byte, x int) []byte {
	return addNum(grown(b, maxBytes), x)
}

// Text returns b followed by the encoding of s.
func Text(b []byte, s string) []byte {
	out := addNum(grown(b, maxBytes+len(s)), len(s))
	return append(out, s...)
}

// Sum returns the checksum of b.
func Sum(b []byte) uint32 {
	r := ^uint32(0)
	for _, x := range b {
		r ^= uint32(x)
		for range 8 {
			// The negation wraps: a bit 1 that is shifted out becomes 32 bits 1, so no branch is needed.
			r = r>>1 ^ polynomial&-(r&1)
		}
	}
	return ^r
}

// grown copies b, with room for n more bytes: appending to b itself could write into the caller's spare capacity.
func grown(b []byte, n int) []byte {
	out := make([]byte, len(b), len(b)+n)
	copy(out, b)
	return out
}

func addNum(out []byte, x int) []byte {
	z := fold(x)
	for z >= more {
		out = append(out, byte(z)|more)
		z >>= groupBits
	}
	return append(out, byte(z))
}

// fold makes small numbers of integers near 0, whatever their sign, so that their encodings are short.
func fold(x int) uint64 {
	if x < 0 {
		// x + 1 first: the negative of the least int is not an int.
		return 2*uint64(-(x+1)) + 1
	}
	return 2 * uint64(x)
}

func unfold(z uint64) int {
	if z%2 == 1 {
		return -int(z/2) - 1
	}
	return int(z / 2)
}

// Reader decodes what Num and Text encoded, and remembers its first error.
type Reader struct {
	left []byte // the bytes that have not been read; none after an error
	bad  bool
}

// New returns a reader at the first byte of b.
func New(b []byte) *Reader {
	return &Reader{left: grown(b, 0)}
}

// Num decodes the next integer.
func (r *Reader) Num() int {
	if r == nil || r.bad {
		return 0
	}
	z, n := firstNum(r.left)
	if n == 0 {
		r.fail()
		return 0
	}
	r.left = r.left[n:]
	return unfold(z)
}

// Text decodes the next string.
func (r *Reader) Text() string {
	n := r.Num()
	if r == nil || r.bad {
		return ""
	}
	if n < 0 || n > len(r.left) {
		r.fail()
		return ""
	}
	s := string(r.left[:n])
	r.left = r.left[n:]
	return s
}

// Left returns the number of bytes that have not been read.
func (r *Reader) Left() int {
	if r == nil {
		return 0
	}
	return len(r.left)
}

// Bad reports whether there was an error.
func (r *Reader) Bad() bool {
	return r != nil && r.bad
}

// Done reports whether there was no error and no bytes are left.
func (r *Reader) Done() bool {
	return r != nil && !r.bad && len(r.left) == 0
}

// fail drops the bytes: nothing is read after an error.
func (r *Reader) fail() {
	r.left, r.bad = nil, true
}

// firstNum returns the folded integer whose encoding b begins with, and the length of that encoding: 0 if there is none.
func firstNum(b []byte) (uint64, int) {
	var z uint64
	for i, x := range b {
		// Nine groups hold 63 bits: a tenth byte has one bit to give, and it is not 0.
		if i == maxBytes-1 && x != 1 {
			return 0, 0
		}
		z |= uint64(x&^more) << (groupBits * i)
		if x >= more {
			continue
		}
		if x == 0 && i > 0 {
			return 0, 0
		}
		return z, i + 1
	}
	return 0, 0
}
