package pack_test

import (
	"bytes"
	"strings"
	"testing"

	"watershed/pack"
)

// spare returns n bytes and the whole memory that they begin, so that a write behind them shows.
func spare(n int) (b, whole []byte) {
	whole = bytes.Repeat([]byte{0xaa}, n+64)
	return whole[:n], whole
}

// checkNew reports what would break R2: encode writes into the memory of its list, or returns some of it.
func checkNew(t *testing.T, name string, encode func(b []byte) []byte) {
	t.Helper()
	for n := range 20 {
		b, whole := spare(n)
		before := bytes.Clone(whole)
		first := encode(b)
		if !bytes.Equal(whole, before) {
			t.Fatalf("%s: the memory of %d bytes that were passed is modified", name, n)
		}
		want := bytes.Clone(first)
		second := encode(b)
		for i := range second {
			second[i] ^= 0xff
		}
		for i := range whole {
			whole[i] = 0x55
		}
		if !bytes.Equal(first, want) {
			t.Fatalf("%s: a result shares memory with its argument of %d bytes, or with another result", name, n)
		}
		end := first[:cap(first)]
		for i := range end {
			end[i] = 0x77
		}
		if !bytes.Equal(whole, bytes.Repeat([]byte{0x55}, len(whole))) {
			t.Fatalf("%s: the spare capacity of a result is memory of its argument of %d bytes", name, n)
		}
	}
}

func TestListsAreNewMemory(t *testing.T) { // R2
	checkNew(t, "Num", func(b []byte) []byte { return pack.Num(b, 1<<40) })
	checkNew(t, "Num of one byte", func(b []byte) []byte { return pack.Num(b, 0) })
	checkNew(t, "Text", func(b []byte) []byte { return pack.Text(b, "some words") })
	checkNew(t, "Text of nothing", func(b []byte) []byte { return pack.Text(b, "") })
}

func TestReaderCopiesItsBytes(t *testing.T) { // R2, P1.2
	b := pack.Text(pack.Num(nil, 300), "abc")
	whole := append(bytes.Clone(b), 0xaa, 0xaa)
	b = whole[:len(b)]
	r, other := pack.New(b), pack.New(b)
	x := r.Num()
	clear(whole)
	if s := r.Text(); x != 300 || s != "abc" || !r.Done() {
		t.Errorf("the reader sees what its list became: %d, %q", x, s)
	}
	if x, s := other.Num(), other.Text(); x != 300 || s != "abc" || !other.Done() {
		t.Errorf("one reader sees what another one did: %d, %q", x, s)
	}
}

func TestReaderModifiesNothing(t *testing.T) { // R2
	for _, w := range append(append([]string{"04 61 62 01"}, wrongNumbers...), wrongTexts...) {
		bs := fromHex(t, w)
		b, whole := spare(len(bs))
		copy(b, bs)
		before := bytes.Clone(whole)
		r := pack.New(b)
		for range 3 {
			r.Text()
			r.Num()
		}
		pack.Sum(b)
		if !bytes.Equal(whole, before) {
			t.Errorf("%s: its memory is modified", w)
		}
	}
}

func TestReadersAreApart(t *testing.T) { // R2: an error of one reader is not another one's
	bad, good := pack.New(nil), pack.New([]byte{2})
	bad.Num()
	if good.Bad() || good.Left() != 1 || good.Num() != 1 || !good.Done() || !bad.Bad() {
		t.Error("readers affect each other")
	}
}

func TestCallsDependOnTheirArgumentsAlone(t *testing.T) { // R2
	for range 3 {
		if !bytes.Equal(pack.Num([]byte{7}, -300), []byte{7, 0xd7, 4}) || pack.Sum([]byte("a")) != 0xe8b7be43 {
			t.Error("the same arguments give another result")
		}
	}
}

func TestEveryCallEnds(t *testing.T) { // R1: whatever the bytes, every order of calls goes through
	s := shuffle(5)
	for range 3000 {
		b := make([]byte, s.next()%24)
		for i := range b {
			b[i] = byte(s.next())
		}
		r := pack.New(b)
		left := r.Left()
		for range 30 {
			if s.next()%2 == 0 {
				r.Num()
			} else {
				r.Text()
			}
			if r.Left() > left || r.Bad() && r.Done() || r.Left() > 0 && r.Done() {
				t.Fatalf("% x: Left = %d, Bad = %t, Done = %t", b, r.Left(), r.Bad(), r.Done())
			}
			left = r.Left()
		}
		if !r.Bad() {
			t.Fatalf("% x: no error in more calls than bytes", b)
		}
	}
	long := strings.Repeat("\xff", 1<<20)
	if r := pack.New(pack.Text(nil, long)); r.Text() != long || !r.Done() {
		t.Error("a string of 2^20 bytes is not decoded")
	}
	if r := pack.New([]byte(long)); r.Num() != 0 || !r.Bad() {
		t.Error("2^20 bytes ff are an integer")
	}
}
