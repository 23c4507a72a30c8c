package pack_test

import (
	"bytes"
	"encoding/hex"
	"hash/crc32"
	"math"
	"strings"
	"testing"

	"watershed/pack"
)

// fromHex reads bytes as the document writes them: "80 01".
func fromHex(t *testing.T, s string) []byte {
	t.Helper()
	b, err := hex.DecodeString(strings.ReplaceAll(s, " ", ""))
	if err != nil {
		t.Fatalf("hexadecimal %q: %v", s, err)
	}
	return b
}

// numbers are integers and their encodings: those that the document names, and the shortest and the longest integers of each length.
var numbers = []struct {
	x    int
	want string
}{
	{0, "00"},
	{1, "02"},
	{-1, "01"},
	{-2, "03"},
	{63, "7e"},
	{-64, "7f"},
	{64, "80 01"},
	{-65, "81 01"},
	{127, "fe 01"},
	{128, "80 02"},
	{8191, "fe 7f"},
	{-8192, "ff 7f"},
	{8192, "80 80 01"},
	{-8193, "81 80 01"},
	{1<<20 - 1, "fe ff 7f"},
	{-1 << 20, "ff ff 7f"},
	{1 << 20, "80 80 80 01"},
	{1<<27 - 1, "fe ff ff 7f"},
	{1 << 27, "80 80 80 80 01"},
	{1<<34 - 1, "fe ff ff ff 7f"},
	{1 << 34, "80 80 80 80 80 01"},
	{1<<41 - 1, "fe ff ff ff ff 7f"},
	{1 << 41, "80 80 80 80 80 80 01"},
	{1<<48 - 1, "fe ff ff ff ff ff 7f"},
	{1 << 48, "80 80 80 80 80 80 80 01"},
	{1<<55 - 1, "fe ff ff ff ff ff ff 7f"},
	{1 << 55, "80 80 80 80 80 80 80 80 01"},
	{1<<62 - 1, "fe ff ff ff ff ff ff ff 7f"},
	{-1 << 62, "ff ff ff ff ff ff ff ff 7f"},
	{1 << 62, "80 80 80 80 80 80 80 80 80 01"},
	{-1<<62 - 1, "81 80 80 80 80 80 80 80 80 01"},
	{math.MaxInt, "fe ff ff ff ff ff ff ff ff 01"},
	{math.MinInt, "ff ff ff ff ff ff ff ff ff 01"},
}

var texts = []struct{ s, want string }{
	{"", "00"},
	{"a", "02 61"},
	{"ab", "04 61 62"},
	{"\x00", "02 00"},
	{"\xff\x80", "04 ff 80"},
	{"é", "04 c3 a9"},
	{strings.Repeat("x", 63), "7e" + strings.Repeat("78", 63)},
	{strings.Repeat("x", 64), "80 01" + strings.Repeat("78", 64)},
	{strings.Repeat("x", 8192), "80 80 01" + strings.Repeat("78", 8192)},
}

// heads are what an encoding is put behind.
var heads = [][]byte{nil, {}, {9}, {0x80}, {1, 2, 3, 4, 5, 6, 7, 8, 9, 10, 11, 12}}

func TestExamples(t *testing.T) {
	for x, want := range map[int]string{
		0: "00", 1: "02", -1: "01", 63: "7e", 64: "80 01", -64: "7f", -65: "81 01",
		math.MaxInt: "fe ff ff ff ff ff ff ff ff 01", math.MinInt: "ff ff ff ff ff ff ff ff ff 01",
	} {
		if b := pack.Num(nil, x); !bytes.Equal(b, fromHex(t, want)) {
			t.Errorf("Num(nothing, %d) = % x, want %s", x, b, want)
		}
	}
	if b := pack.Text(nil, "ab"); !bytes.Equal(b, fromHex(t, "04 61 62")) {
		t.Errorf("Text(nothing, ab) = % x", b)
	}
	if s := pack.Sum([]byte("123456789")); s != 0xcbf43926 {
		t.Errorf("Sum(123456789) = %x", s)
	}
	if s := pack.Sum(nil); s != 0 {
		t.Errorf("Sum(nothing) = %x", s)
	}
	r := pack.New(fromHex(t, "04 61 62 01"))
	if s := r.Text(); s != "ab" {
		t.Errorf("04 61 62 01: Text = %q", s)
	}
	if x := r.Num(); x != -1 {
		t.Errorf("04 61 62 01: Num = %d", x)
	}
	if !r.Done() {
		t.Error("04 61 62 01: Done = false")
	}
	if x := r.Num(); x != 0 || !r.Bad() {
		t.Errorf("04 61 62 01: the second Num = %d, Bad = %t", x, r.Bad())
	}
	r = pack.New(fromHex(t, "80 00"))
	if x, left, bad := r.Num(), r.Left(), r.Bad(); x != 0 || left != 0 || !bad {
		t.Errorf("80 00: Num = %d, Left = %d, Bad = %t", x, left, bad)
	}
	r = pack.New(fromHex(t, "01 61"))
	if s, bad := r.Text(), r.Bad(); s != "" || !bad {
		t.Errorf("01 61: Text = %q, Bad = %t", s, bad)
	}
}

func TestNumEncodes(t *testing.T) { // P1.1
	for _, n := range numbers {
		for _, head := range heads {
			want := append(bytes.Clone(head), fromHex(t, n.want)...)
			if b := pack.Num(head, n.x); !bytes.Equal(b, want) {
				t.Errorf("Num(% x, %d) = % x, want % x", head, n.x, b, want)
			}
		}
	}
}

func TestTextEncodes(t *testing.T) { // P1.1
	for _, s := range texts {
		for _, head := range heads {
			want := append(bytes.Clone(head), fromHex(t, s.want)...)
			if b := pack.Text(head, s.s); !bytes.Equal(b, want) {
				t.Errorf("Text(% x, %.20q) = % x, want % x", head, s.s, b, want)
			}
		}
	}
}

func TestSumIsTheChecksum(t *testing.T) { // P1.1; the library's CRC-32 has the same definition
	var b []byte
	for i := range 600 {
		if got, want := pack.Sum(b), crc32.ChecksumIEEE(b); got != want {
			t.Fatalf("Sum of %d bytes = %x, want %x", len(b), got, want)
		}
		b = append(b, byte(i*i*7+i))
	}
	for x := range 256 {
		for _, n := range []int{1, 4, 33} {
			b := bytes.Repeat([]byte{byte(x)}, n)
			if got, want := pack.Sum(b), crc32.ChecksumIEEE(b); got != want {
				t.Errorf("Sum of %d bytes %x = %x, want %x", n, x, got, want)
			}
		}
	}
}

func TestNumDecodes(t *testing.T) { // P1.2
	for _, n := range numbers {
		for _, tail := range heads {
			r := pack.New(append(fromHex(t, n.want), tail...))
			if x := r.Num(); x != n.x || r.Bad() || r.Left() != len(tail) || r.Done() != (len(tail) == 0) {
				t.Errorf("%s and % x: Num = %d, Bad = %t, Left = %d, Done = %t", n.want, tail, x, r.Bad(), r.Left(), r.Done())
			}
		}
	}
}

func TestTextDecodes(t *testing.T) { // P1.2
	for _, s := range texts {
		for _, tail := range heads {
			r := pack.New(append(fromHex(t, s.want), tail...))
			if x := r.Text(); x != s.s || r.Bad() || r.Left() != len(tail) || r.Done() != (len(tail) == 0) {
				t.Errorf("%.20s and % x: Text = %.20q, Bad = %t, Left = %d, Done = %t", s.want, tail, x, r.Bad(), r.Left(), r.Done())
			}
		}
	}
}

// wrongNumbers are bytes that begin with no encoding of an integer.
var wrongNumbers = []string{
	"",
	"80", "ff", "80 80", "ff ff ff", // the bytes end within it
	"80 80 80 80 80 80 80 80 80", "ff ff ff ff ff ff ff ff ff",
	"80 80 80 80 80 80 80 80 80 80", "ff ff ff ff ff ff ff ff ff ff", "ff ff ff ff ff ff ff ff ff 81",
	"80 00", "81 00", "ff 00", "80 80 00", "80 00 01", "ff ff ff ff ff ff ff ff 00", // the last of several bytes is 0
	"80 80 80 80 80 80 80 80 80 00", "ff ff ff ff ff ff ff ff ff 00",
	"ff ff ff ff ff ff ff ff ff 81 00", "80 80 80 80 80 80 80 80 80 80 00",
	"80 80 80 80 80 80 80 80 80 02", "ff ff ff ff ff ff ff ff ff 02", // 2^64 or more
	"80 80 80 80 80 80 80 80 80 03", "ff ff ff ff ff ff ff ff ff 7f",
	"80 80 80 80 80 80 80 80 80 80 01", "80 80 80 80 80 80 80 80 80 81 01", "ff ff ff ff ff ff ff ff ff ff 01",
	"ff ff ff ff ff ff ff ff ff ff ff ff ff ff ff ff ff ff ff ff 01",
}

// wrongTexts are bytes that begin with an encoding of an integer, and with none of a string.
var wrongTexts = []string{
	"01", "01 61", "03 61 62", "7f 61", "81 01 61", // the length is negative
	"ff ff ff ff ff ff ff ff ff 01", "ff ff ff ff ff ff ff ff ff 01 61",
	"02", "04 61", "06 61 62", "7e 61", "80 01 61", // more than the bytes that follow
	"fe ff ff ff ff ff ff ff ff 01", "fe ff ff ff ff ff ff ff ff 01 61",
}

// checkFailed asks a reader that has met an error everything, twice: the answers stay.
func checkFailed(t *testing.T, name string, r *pack.Reader) {
	t.Helper()
	for range 2 {
		if !r.Bad() || r.Done() || r.Left() != 0 {
			t.Errorf("%s: after an error Bad = %t, Done = %t, Left = %d", name, r.Bad(), r.Done(), r.Left())
		}
		if x, s := r.Num(), r.Text(); x != 0 || s != "" {
			t.Errorf("%s: after an error Num = %d, Text = %q", name, x, s)
		}
	}
}

func TestWrongNumbers(t *testing.T) { // P1.2
	for _, w := range wrongNumbers {
		r := pack.New(fromHex(t, w))
		if x := r.Num(); x != 0 {
			t.Errorf("%s: Num = %d", w, x)
		}
		checkFailed(t, w, r)
		r = pack.New(fromHex(t, w))
		if s := r.Text(); s != "" {
			t.Errorf("%s: Text = %q", w, s)
		}
		checkFailed(t, w, r)
	}
}

func TestWrongTexts(t *testing.T) { // P1.2
	for _, w := range wrongTexts {
		r := pack.New(fromHex(t, w))
		if s := r.Text(); s != "" {
			t.Errorf("%s: Text = %q", w, s)
		}
		checkFailed(t, w, r)
		r = pack.New(fromHex(t, w))
		if r.Num(); r.Bad() {
			t.Errorf("%s: Num finds no integer", w)
		}
	}
}

func TestNothingIsReadAfterAnError(t *testing.T) { // P1.2: good encodings behind the wrong one are not read
	for _, w := range []string{"80 00 02 02 61", "ff 00 02 02 61", "01 02 61 02 61"} {
		r := pack.New(fromHex(t, w))
		r.Text()
		checkFailed(t, w, r)
	}
	r := pack.New(fromHex(t, "02 80 00 02"))
	if x := r.Num(); x != 1 || r.Bad() || r.Left() != 3 {
		t.Errorf("02 80 00 02: Num = %d, Bad = %t, Left = %d", x, r.Bad(), r.Left())
	}
	r.Num()
	checkFailed(t, "02 80 00 02", r)
}

func TestLeftAndDone(t *testing.T) { // P1.2
	r := pack.New(fromHex(t, "80 01 04 61 62 00 7f"))
	check := func(behind string, left int) {
		t.Helper()
		if r.Left() != left || r.Done() != (left == 0) || r.Bad() {
			t.Errorf("behind %s: Left = %d, want %d, Done = %t, Bad = %t", behind, r.Left(), left, r.Done(), r.Bad())
		}
	}
	check("nothing", 7)
	r.Num()
	check("80 01", 5)
	r.Text()
	check("04 61 62", 2)
	r.Text()
	check("00", 1)
	r.Num()
	check("7f", 0)
	for _, b := range [][]byte{nil, {}} {
		r := pack.New(b)
		if r == nil || r.Left() != 0 || r.Bad() || !r.Done() {
			t.Errorf("a reader of no bytes: Left = %d, Bad = %t, Done = %t", r.Left(), r.Bad(), r.Done())
		}
	}
}

func TestNilReader(t *testing.T) { // P1.3
	var r *pack.Reader
	for range 2 {
		if x := r.Num(); x != 0 {
			t.Errorf("Num = %d", x)
		}
		if s := r.Text(); s != "" {
			t.Errorf("Text = %q", s)
		}
		if n := r.Left(); n != 0 {
			t.Errorf("Left = %d", n)
		}
		if r.Bad() {
			t.Error("Bad = true")
		}
		if r.Done() {
			t.Error("Done = true")
		}
	}
}
