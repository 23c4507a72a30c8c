package disk_test

import (
	"bytes"
	"math"
	"slices"
	"strings"
	"testing"

	"watershed/api"
	"watershed/disk"
)

const maxFile = 16777216

// want reports a call that returned another error than it must.
func want(t *testing.T, call string, got, want api.Errno) {
	t.Helper()
	if got != want {
		t.Errorf("%s = %d, want %d", call, got, want)
	}
}

// checkFile reports a file that is not there, or that has other bytes.
func checkFile(t *testing.T, d *disk.Disk, name, data string) {
	t.Helper()
	if b, e := d.Read(name); e != api.OK || string(b) != data {
		t.Errorf("Read(%q) = %.40q, %d, want %.40q", name, b, e, data)
	}
}

// checkNoFile reports a file that is there, although it must not be.
func checkNoFile(t *testing.T, d *disk.Disk, name string) {
	t.Helper()
	if b, e := d.Read(name); e != api.ErrFile || len(b) != 0 {
		t.Errorf("Read(%q) = %.40q, %d, want ErrFile", name, b, e)
	}
	if slices.Contains(d.Names(), name) {
		t.Errorf("%q is among the names %q", name, d.Names())
	}
}

func checkDeeds(t *testing.T, d *disk.Disk, n int) {
	t.Helper()
	if got := d.Deeds(); got != n {
		t.Errorf("Deeds = %d, want %d", got, n)
	}
}

// put appends to a file of a disk whose power is on.
func put(t *testing.T, d *disk.Disk, name, data string) {
	t.Helper()
	want(t, "Append("+name+")", d.Append(name, []byte(data)), api.OK)
}

// withSafe returns a disk with a file that has some safe bytes, and others behind them.
func withSafe(t *testing.T, name, safe, others string) *disk.Disk {
	t.Helper()
	d := disk.New()
	put(t, d, name, safe)
	want(t, "Sync("+name+")", d.Sync(name), api.OK)
	put(t, d, name, others)
	return d
}

func TestExamples(t *testing.T) {
	d := disk.New()
	want(t, "Append(a, xyz)", d.Append("a", []byte("xyz")), api.OK)
	want(t, "Sync(a)", d.Sync("a"), api.OK)
	want(t, "Append(a, pq)", d.Append("a", []byte("pq")), api.OK)
	d.Off(1)
	d.On()
	checkFile(t, d, "a", "xyzp")

	d.Arm(2, 0)
	want(t, "Append(a, 1)", d.Append("a", []byte("1")), api.OK)
	want(t, "Sync(a)", d.Sync("a"), api.ErrDown)
	if d.Up() {
		t.Error("Up = true")
	}
	d.On()
	checkFile(t, d, "a", "xyzp")
	checkDeeds(t, d, 5)

	d.Arm(1, 9)
	want(t, "Append(a, 2)", d.Append("a", []byte("2")), api.ErrDown)
	d.On()
	checkFile(t, d, "a", "xyzp2")

	want(t, "Cut(a, 6)", d.Cut("a", 6), api.ErrArg)
	want(t, "Cut(a, 5)", d.Cut("a", 5), api.OK)
	want(t, "Cut(b, 0)", d.Cut("b", 0), api.ErrFile)
	want(t, "Append(A, 1)", d.Append("A", []byte("1")), api.ErrName)
}

func TestNewDisk(t *testing.T) { // P2.1
	d := disk.New()
	if d == nil {
		t.Fatal("New returns nil")
	}
	if !d.Up() {
		t.Error("the power is off")
	}
	if l := d.Names(); len(l) != 0 {
		t.Errorf("Names = %q", l)
	}
	checkDeeds(t, d, 0)
	for range 50 { // no failure is armed
		put(t, d, "a", "x")
		want(t, "Sync", d.Sync("a"), api.OK)
		want(t, "Cut", d.Cut("a", 0), api.OK)
	}
	if !d.Up() {
		t.Error("the power failed by itself")
	}
}

func TestUpTellsOfThePower(t *testing.T) { // P2.1
	d := disk.New()
	for range 3 {
		d.Off(0)
		if d.Up() {
			t.Error("Up = true after Off")
		}
		d.On()
		if !d.Up() {
			t.Error("Up = false after On")
		}
	}
	d.Arm(1, 0)
	if !d.Up() {
		t.Error("Up = false after Arm")
	}
	d.Append("a", nil)
	if d.Up() {
		t.Error("Up = true after the armed failure")
	}
}

func TestNamesAreInOrder(t *testing.T) { // P2.1
	names := []string{
		"-", "--", "-a", ".", "..", ".0", "0", "0-", "00", "1", "10", "11", "2", "9", "9z",
		"a", "a-", "a-0", "a.", "a0", "a00", "aa", "aaaaaaaaaaaaaaaa", "ab", "b", "ba", "z", "zz", "zzzzzzzzzzzzzzzz",
	}
	for step := 1; step < len(names); step++ { // 29 is a prime: every step reaches all names, each in another order
		d := disk.New()
		for i := range names {
			put(t, d, names[(i+1)*step%len(names)], "x")
			if l := d.Names(); len(l) != i+1 || !slices.IsSorted(l) {
				t.Fatalf("after %d files Names = %q", i+1, l)
			}
		}
		if l := d.Names(); !slices.Equal(l, names) {
			t.Fatalf("Names = %q, want %q", l, names)
		}
	}
}

func TestNamesWhileThePowerIsOff(t *testing.T) { // P2.1
	d := disk.New()
	put(t, d, "b", "x")
	put(t, d, "a", "")
	d.Off(0)
	if l := d.Names(); len(l) != 0 {
		t.Errorf("Names = %q while the power is off", l)
	}
	d.On()
	if l := d.Names(); !slices.Equal(l, []string{"a", "b"}) {
		t.Errorf("Names = %q, want a and b", l)
	}
}

func TestNamesStayWithTheirFiles(t *testing.T) { // P2.1: a file that is empty, or was appended to often, is there once
	d := disk.New()
	for range 3 {
		put(t, d, "a", "x")
		want(t, "Sync", d.Sync("a"), api.OK)
		want(t, "Cut", d.Cut("a", 0), api.OK)
		if l := d.Names(); !slices.Equal(l, []string{"a"}) {
			t.Errorf("Names = %q, want a", l)
		}
	}
	checkFile(t, d, "a", "")
}

func TestFileNames(t *testing.T) { // P2.2: a name has 1 to 16 bytes
	for n := range 40 {
		e := api.OK
		if n < 1 || n > 16 {
			e = api.ErrName
		}
		for _, c := range []string{"a", "z", "0", "9", ".", "-"} {
			name := strings.Repeat(c, n)
			d := disk.New()
			want(t, "Append("+name+")", d.Append(name, []byte("x")), e)
			if e != api.OK {
				checkNoFile(t, d, name)
				checkDeeds(t, d, 0)
				continue
			}
			checkFile(t, d, name, "x")
		}
	}
	d := disk.New()
	want(t, "Append of a long name", d.Append(strings.Repeat("a", 1<<16), nil), api.ErrName)
	for _, name := range []string{"é", "a é", "ａ", "a\x80", "\xff", "a/b", "a b", "a_b", "aB", "a\x00", "a\n", " a", "a "} {
		want(t, "Append("+name+")", d.Append(name, nil), api.ErrName)
		checkNoFile(t, d, name)
	}
	checkDeeds(t, d, 0)
}

func TestBytesOfFileNames(t *testing.T) { // P2.2: every byte, at every place of a name
	const good = "abcdefghijklmnopqrstuvwxyz0123456789.-"
	for c := range 256 {
		e := api.ErrName
		if strings.IndexByte(good, byte(c)) >= 0 {
			e = api.OK
		}
		for n := 1; n <= 16; n++ {
			for at := range n {
				name := bytes.Repeat([]byte{'m'}, n)
				name[at] = byte(c)
				if got := disk.New().Append(string(name), nil); got != e {
					t.Fatalf("Append(%q) = %d, want %d", name, got, e)
				}
			}
		}
	}
}

func TestAppend(t *testing.T) { // P2.2
	d := disk.New()
	checkNoFile(t, d, "a")
	want(t, "Append(a, nothing)", d.Append("a", nil), api.OK)
	checkFile(t, d, "a", "")
	want(t, "Append(b, nothing)", d.Append("b", []byte{}), api.OK)
	checkFile(t, d, "b", "")
	var all string
	for _, s := range []string{"x", "", "yz", "\x00\xff", "a longer piece of bytes", "q"} {
		put(t, d, "a", s)
		all += s
		checkFile(t, d, "a", all)
	}
	checkFile(t, d, "b", "")
	checkDeeds(t, d, 8)
}

func TestLongFiles(t *testing.T) { // P2.2: a file has at most 16777216 bytes
	whole := make([]byte, maxFile+1)
	for i := range whole {
		whole[i] = byte(i >> 12)
	}
	d := disk.New()
	want(t, "Append of one byte too many", d.Append("a", whole), api.ErrLong)
	checkNoFile(t, d, "a")
	checkDeeds(t, d, 0)
	want(t, "Append of the longest file", d.Append("a", whole[:maxFile]), api.OK)
	want(t, "Append of another byte", d.Append("a", []byte{1}), api.ErrLong)
	want(t, "Append of nothing", d.Append("a", nil), api.OK)
	want(t, "Append to another file", d.Append("b", []byte{1}), api.OK)
	want(t, "Cut", d.Cut("a", maxFile-1), api.OK)
	want(t, "Append of two bytes", d.Append("a", whole[:2]), api.ErrLong)
	checkDeeds(t, d, 4)
	want(t, "Append of one byte", d.Append("a", whole[maxFile-1:maxFile]), api.OK)
	if b, e := d.Read("a"); e != api.OK || !bytes.Equal(b, whole[:maxFile]) {
		t.Errorf("the longest file has %d bytes, %d, or others", len(b), e)
	}
	want(t, "Cut beyond the longest file", d.Cut("a", maxFile+1), api.ErrArg)
}

func TestSync(t *testing.T) { // P2.2: all bytes become safe, of this file alone
	d := disk.New()
	put(t, d, "a", "xyz")
	put(t, d, "b", "pq")
	want(t, "Sync(a)", d.Sync("a"), api.OK)
	put(t, d, "a", "1")
	want(t, "Sync(a)", d.Sync("a"), api.OK)
	put(t, d, "a", "2")
	d.Off(0)
	d.On()
	checkFile(t, d, "a", "xyz1")
	checkFile(t, d, "b", "")
}

func TestCut(t *testing.T) { // P2.2
	for n := -2; n <= 8; n++ {
		d := withSafe(t, "a", "xyz", "pqr")
		e, left := api.ErrArg, "xyzpqr"
		if 0 <= n && n <= 6 {
			e, left = api.OK, left[:n]
		}
		want(t, "Cut", d.Cut("a", n), e)
		checkFile(t, d, "a", left)
	}
	for _, n := range []int{math.MinInt, -1 << 32, 1 << 32, math.MaxInt} {
		d := withSafe(t, "a", "xyz", "pqr")
		want(t, "Cut", d.Cut("a", n), api.ErrArg)
		checkFile(t, d, "a", "xyzpqr")
		checkDeeds(t, d, 3)
	}
	d := disk.New()
	put(t, d, "a", "")
	want(t, "Cut of an empty file at 0", d.Cut("a", 0), api.OK)
	want(t, "Cut of an empty file at 1", d.Cut("a", 1), api.ErrArg)
}

func TestCutBytesRemainSafe(t *testing.T) { // P2.2: as far as they were, and no further
	for n := range 7 {
		for _, more := range []string{"", "12345"} {
			d := withSafe(t, "a", "xyz", "pqr")
			want(t, "Cut", d.Cut("a", n), api.OK)
			put(t, d, "a", more)
			checkFile(t, d, "a", "xyzpqr"[:n]+more)
			d.Off(0)
			d.On()
			checkFile(t, d, "a", "xyz"[:min(n, 3)])
		}
	}
}

func TestRead(t *testing.T) { // P2.2: it is not an operation
	d := withSafe(t, "a", "xyz", "pq")
	d.Arm(1, 0)
	for range 5 {
		checkFile(t, d, "a", "xyzpq")
		checkNoFile(t, d, "b")
	}
	checkDeeds(t, d, 3)
	want(t, "Sync", d.Sync("a"), api.ErrDown)
}

func TestNoSuchFile(t *testing.T) { // P2.2: Sync, Cut and Read ask for the file, whatever the name
	d := disk.New()
	put(t, d, "a", "x")
	for _, name := range []string{"b", "A", "", "aa", "a ", strings.Repeat("a", 17), "\xff"} {
		want(t, "Sync("+name+")", d.Sync(name), api.ErrFile)
		want(t, "Cut("+name+", 0)", d.Cut(name, 0), api.ErrFile)
		checkNoFile(t, d, name)
	}
	checkDeeds(t, d, 1)
	if l := d.Names(); !slices.Equal(l, []string{"a"}) {
		t.Errorf("Names = %q, want a", l)
	}
}

func TestOrderOfErrors(t *testing.T) { // P2.2, R1: of two errors the one that is named first is returned
	long := make([]byte, maxFile+1)
	d := withSafe(t, "a", "xyz", "pq")
	want(t, "Append(A, too much)", d.Append("A", long), api.ErrName)
	want(t, "Append(a, too much)", d.Append("a", long[:maxFile-4]), api.ErrLong)
	want(t, "Cut(b, -1)", d.Cut("b", -1), api.ErrFile)
	want(t, "Cut(A, 1)", d.Cut("A", 1), api.ErrFile)
	d.Off(2)
	for _, name := range []string{"a", "b", "A", ""} {
		want(t, "Append("+name+")", d.Append(name, nil), api.ErrDown)
		want(t, "Append("+name+", too much)", d.Append(name, long), api.ErrDown)
		want(t, "Sync("+name+")", d.Sync(name), api.ErrDown)
		for _, n := range []int{-1, 0, 1, 6} {
			want(t, "Cut("+name+")", d.Cut(name, n), api.ErrDown)
		}
		if b, e := d.Read(name); e != api.ErrDown || len(b) != 0 {
			t.Errorf("Read(%q) = %q, %d while the power is off", name, b, e)
		}
	}
	d.On()
	checkFile(t, d, "a", "xyzpq")
	checkNoFile(t, d, "b")
	checkDeeds(t, d, 3)
}

func TestDeeds(t *testing.T) { // P2.2: operations alone are counted
	d := disk.New()
	n := 0
	for i, call := range []struct {
		does func()
		more int
	}{
		{func() { d.Append("a", []byte("xyz")) }, 1},
		{func() { d.Append("a", nil) }, 1},
		{func() { d.Append("A", nil) }, 0},
		{func() { d.Append("a", make([]byte, maxFile)) }, 0},
		{func() { d.Sync("a") }, 1},
		{func() { d.Sync("a") }, 1},
		{func() { d.Sync("b") }, 0},
		{func() { d.Cut("a", 3) }, 1},
		{func() { d.Cut("a", 4) }, 0},
		{func() { d.Cut("b", 0) }, 0},
		{func() { d.Read("a") }, 0},
		{func() { d.Names() }, 0},
		{func() { d.Up() }, 0},
		{func() { d.Deeds() }, 0},
		{func() { d.Off(0) }, 0},
		{func() { d.Off(0) }, 0},
		{func() { d.Append("a", nil) }, 0},
		{func() { d.Sync("a") }, 0},
		{func() { d.Cut("a", 0) }, 0},
		{func() { d.On() }, 0},
		{func() { d.On() }, 0},
		{func() { d.Arm(1, 0) }, 0},
		{func() { d.Sync("a") }, 1},
		{func() { d.On() }, 0},
		{func() { d.Cut("a", 0) }, 1},
	} {
		call.does()
		n += call.more
		if got := d.Deeds(); got != n {
			t.Fatalf("after call %d Deeds = %d, want %d", i, got, n)
		}
	}
}
