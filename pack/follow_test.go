package pack_test

import (
	"bytes"
	"math"
	"testing"

	"watershed/pack"
)

// shuffle yields numbers without order, the same ones in every run.
type shuffle uint64

func (s *shuffle) next() uint64 {
	*s = *s*6364136223846793005 + 1442695040888963407
	z := uint64(*s)
	z = (z ^ z>>33) * 0xff51afd7ed558ccd
	return z ^ z>>29
}

// ints are integers around every power of two, and some of every length without order.
func ints() []int {
	var l []int
	for i := range 64 {
		p := int(uint64(1) << i)
		l = append(l, p-1, p, p+1, -p-1, -p, -p+1)
	}
	s := shuffle(1)
	for i := range 640 {
		l = append(l, int(s.next()>>(i%64)), -int(s.next()>>(i%64)))
	}
	return append(l, 0, math.MaxInt, math.MinInt)
}

func TestDecodesWhatWasEncoded(t *testing.T) { // P1.4
	s := shuffle(2)
	l := ints()
	for _, tail := range [][]byte{nil, {0}, {1}, {0x80}, {0x80, 0}, {0xff, 0xff}} {
		var b []byte
		var words []string
		for i, x := range l {
			b = pack.Num(b, x)
			w := make([]byte, s.next()%9+uint64(i%3)*63)
			for j := range w {
				w[j] = byte(s.next())
			}
			words = append(words, string(w))
			b = pack.Text(b, string(w))
		}
		r := pack.New(append(b, tail...))
		for i, x := range l {
			if got := r.Num(); got != x {
				t.Fatalf("the integer %d is decoded as %d", x, got)
			}
			if got := r.Text(); got != words[i] {
				t.Fatalf("the string %q is decoded as %q", words[i], got)
			}
		}
		if r.Bad() || r.Left() != len(tail) {
			t.Errorf("in front of % x: Bad = %t, Left = %d", tail, r.Bad(), r.Left())
		}
	}
}

// checkAgain encodes what was decoded from b: if there was no error, the same bytes come out.
func checkAgain(t *testing.T, b []byte) {
	t.Helper()
	r := pack.New(b)
	x := r.Num()
	if !r.Bad() {
		if again := pack.Num(nil, x); !bytes.Equal(again, b[:len(b)-r.Left()]) {
			t.Errorf("% x is decoded as %d, whose encoding is % x", b, x, again)
		}
	}
	r = pack.New(b)
	s := r.Text()
	if !r.Bad() {
		if again := pack.Text(nil, s); !bytes.Equal(again, b[:len(b)-r.Left()]) {
			t.Errorf("% x is decoded as %q, whose encoding is % x", b, s, again)
		}
	}
}

func TestEncodesWhatWasDecoded(t *testing.T) { // P1.4
	for x := range 256 {
		checkAgain(t, []byte{byte(x)})
		for y := range 256 {
			checkAgain(t, []byte{byte(x), byte(y)})
		}
	}
	edges := []byte{0, 1, 2, 3, 0x40, 0x7f, 0x80, 0x81, 0xfe, 0xff}
	for n := 1; n <= 11; n++ { // all endings of three of these bytes, behind bytes that continue
		for _, fill := range []byte{0x80, 0x81, 0xff} {
			b := append(bytes.Repeat([]byte{fill}, n), 0, 0, 0)
			for _, x := range edges {
				for _, y := range edges {
					for _, z := range edges {
						b[n], b[n+1], b[n+2] = x, y, z
						checkAgain(t, b)
					}
				}
			}
		}
	}
	s := shuffle(3)
	for range 20000 {
		b := make([]byte, s.next()%14)
		for i := range b {
			b[i] = byte(s.next()) | byte(s.next())&0x80
		}
		checkAgain(t, b)
	}
}

func TestNoEncodingBeginsAnother(t *testing.T) { // P1.4
	encodings := map[int][]byte{}
	for _, x := range ints() {
		encodings[x] = pack.Num(nil, x)
	}
	for x, b := range encodings {
		if len(b) < 1 || len(b) > 10 {
			t.Errorf("the encoding of %d has %d bytes", x, len(b))
		}
		for y, c := range encodings {
			if x != y && bytes.HasPrefix(c, b) {
				t.Errorf("% x, of %d, begins % x, of %d", b, x, c, y)
			}
		}
	}
}

// changed returns what the checksum of b becomes by if the bits of diff are turned over in the bytes from at on.
func changed(b []byte, at int, diff uint32) uint32 {
	c := bytes.Clone(b)
	for i := at; i < at+4 && i < len(c); i++ {
		c[i] ^= byte(diff >> (8 * (i - at)))
	}
	return pack.Sum(b) ^ pack.Sum(c)
}

// independent reports whether no numbers of l, at least one, XOR to 0.
func independent(l []uint32) bool {
	var lead [32]uint32 // with that bit as their highest one
	for _, x := range l {
		for bit := 31; bit >= 0; bit-- {
			if x>>bit&1 == 0 {
				continue
			}
			if lead[bit] == 0 {
				lead[bit] = x
				break
			}
			x ^= lead[bit]
		}
		if x == 0 {
			return false
		}
	}
	return true
}

// TestNearBytesHaveOtherSums shows P1.5 for all differences at once: a difference changes the checksum by the XOR of what its single bits change it by, and these are independent.
func TestNearBytesHaveOtherSums(t *testing.T) {
	s := shuffle(4)
	for _, n := range []int{1, 2, 3, 4, 5, 9, 64, 257} {
		b := make([]byte, n)
		for i := range b {
			b[i] = byte(s.next())
		}
		for at := 0; at == 0 || at+4 <= n; at++ {
			bits := make([]uint32, 8*min(4, n-at))
			for i := range bits {
				bits[i] = changed(b, at, 1<<i)
			}
			if !independent(bits) {
				t.Errorf("of %d bytes, some that differ from %d on have the same checksum", n, at)
			}
			for range 20 {
				diff := uint32(s.next()) & uint32(1<<len(bits)-1)
				var want uint32
				for i, x := range bits {
					want ^= x * (diff >> i & 1)
				}
				if got := changed(b, at, diff); got != want || (got == 0) != (diff == 0) {
					t.Errorf("of %d bytes, the difference %x at %d changes the checksum by %x, want %x", n, diff, at, got, want)
				}
			}
		}
	}
}
