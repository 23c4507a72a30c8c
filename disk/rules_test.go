package disk_test

import (
	"bytes"
	"math"
	"slices"
	"strings"
	"testing"
	"unsafe"

	"watershed/api"
	"watershed/disk"
)

func TestAppendCopiesItsBytes(t *testing.T) { // R2: the list is not modified, with its spare capacity, and not retained
	for n := range 70 {
		for _, head := range []string{"", "some bytes ahead"} {
			whole := bytes.Repeat([]byte{0xaa}, n+64)
			b := whole[:n]
			d := disk.New()
			put(t, d, "a", head)
			want(t, "Append", d.Append("a", b), api.OK)
			put(t, d, "a", "behind")
			want(t, "Cut", d.Cut("a", len(head)+n), api.OK)
			put(t, d, "a", "more")
			d.Off(math.MaxInt)
			d.On()
			if !bytes.Equal(whole, bytes.Repeat([]byte{0xaa}, n+64)) {
				t.Fatalf("the memory of %d bytes that were passed is modified", n)
			}
			clear(whole)
			checkFile(t, d, "a", head+strings.Repeat("\xaa", n)+"more")
		}
	}
}

func TestReadIsNewMemory(t *testing.T) { // R2
	for n := range 70 {
		s := strings.Repeat("x", n)
		d := disk.New()
		put(t, d, "a", s+"cut off")
		want(t, "Cut", d.Cut("a", n), api.OK)
		first, _ := d.Read("a")
		second, _ := d.Read("a")
		for _, b := range [][]byte{first, second} { // with the spare capacity
			b = b[:cap(b)]
			for i := range b {
				b[i] = 'y'
			}
		}
		checkFile(t, d, "a", s)
		third, _ := d.Read("a")
		put(t, d, "a", "behind")
		want(t, "Cut", d.Cut("a", 0), api.OK)
		put(t, d, "a", "others")
		if string(third) != s {
			t.Fatalf("a list of %d bytes that was read has become %q", n, third)
		}
		for i := range third {
			third[i] = 'z'
		}
		if len(first) > 0 && first[0] != 'y' {
			t.Fatal("two results share memory")
		}
		checkFile(t, d, "a", "others")
	}
}

func TestFilesShareNoMemory(t *testing.T) { // R2: one list for two files, and a file's bytes put into another one
	d := disk.New()
	b := []byte("xyz")
	want(t, "Append(a)", d.Append("a", b), api.OK)
	want(t, "Append(b)", d.Append("b", b), api.OK)
	c, _ := d.Read("a")
	want(t, "Append(c)", d.Append("c", c), api.OK)
	want(t, "Append(a)", d.Append("a", c), api.OK)
	want(t, "Cut(b)", d.Cut("b", 1), api.OK)
	put(t, d, "b", "pq")
	copy(c, "---")
	checkFile(t, d, "a", "xyzxyz")
	checkFile(t, d, "b", "xpq")
	checkFile(t, d, "c", "xyz")
}

func TestNamesAreNewMemory(t *testing.T) { // R2
	d := disk.New()
	for _, name := range []string{"c", "a", "b"} {
		put(t, d, name, name)
	}
	l := d.Names()
	other := d.Names()
	for i := range l {
		l[i] = "zz"
	}
	if abc := []string{"a", "b", "c"}; !slices.Equal(other, abc) || !slices.Equal(d.Names(), abc) {
		t.Errorf("Names = %q and %q after another result was written to", other, d.Names())
	}
	put(t, d, "d", "")
	if len(other) != 3 {
		t.Errorf("Names = %q has grown", other)
	}
	for _, name := range other {
		checkFile(t, d, name, name)
	}
}

func TestNamesAreNotRetained(t *testing.T) { // R2: a file's name is a copy, whatever text the caller's name is a piece of
	long := strings.Repeat("a long text ", 100)
	name := long[2:6]
	d := disk.New()
	put(t, d, name, "x")
	put(t, d, name, "y")
	l := d.Names()
	if len(l) != 1 || l[0] != "long" || unsafe.StringData(l[0]) == unsafe.StringData(name) {
		t.Errorf("Names = %q, or it is the caller's memory", l)
	}
	checkFile(t, d, "long", "xy")
}

func TestDisksAreApart(t *testing.T) { // R2: objects do not affect each other
	a, b := disk.New(), disk.New()
	put(t, a, "f", "xyz")
	checkNoFile(t, b, "f")
	put(t, b, "f", "pq")
	a.Arm(1, 0)
	want(t, "Sync of the other disk", b.Sync("f"), api.OK)
	want(t, "Sync of the armed disk", a.Sync("f"), api.ErrDown)
	if !b.Up() {
		t.Error("the other disk's power has failed")
	}
	a.On()
	b.Off(0)
	if !a.Up() {
		t.Error("Off of one disk is for both")
	}
	b.On()
	checkFile(t, a, "f", "")
	checkFile(t, b, "f", "pq")
	checkDeeds(t, a, 2)
	checkDeeds(t, b, 2)
}

func TestSameCallsSameResults(t *testing.T) { // R2: nothing depends on the order in which files are gone through
	run := func() (all string) {
		s := shuffle(7)
		d := disk.New()
		for range 400 {
			name := string(rune('a' + s.below(20)))
			d.Append(name, s.bytes(s.below(9)))
			if s.below(3) == 0 {
				d.Sync(name)
			}
			if s.below(20) == 0 {
				d.Off(s.below(12))
				d.On()
			}
			all += strings.Join(d.Names(), " ")
		}
		for _, name := range d.Names() {
			b, _ := d.Read(name)
			all += string(b)
		}
		return all
	}
	first := run()
	for range 20 {
		if run() != first {
			t.Fatal("the same calls have other results")
		}
	}
}

func TestEmptyFilesAndZeroDisks(t *testing.T) { // R1: no call panics on a disk without files, or that no call returned
	for _, d := range []*disk.Disk{disk.New(), {}} {
		for _, n := range []int{math.MinInt, -1, 0, 1, math.MaxInt} {
			d.Off(n)
			d.Arm(n, n)
			d.On()
			d.Arm(0, 0)
			want(t, "Sync", d.Sync("a"), api.ErrFile)
			want(t, "Cut", d.Cut("a", n), api.ErrFile)
			checkNoFile(t, d, "a")
		}
		put(t, d, "a", "")
		checkFile(t, d, "a", "")
		d.Off(math.MaxInt)
		d.On()
		checkFile(t, d, "a", "")
		put(t, d, "a", "x")
		checkFile(t, d, "a", "x")
	}
}

func TestOrderOfFileNamesIsByBytes(t *testing.T) { // R6
	d := disk.New()
	for _, name := range []string{"a10", "a9", "a-9", "a.9", "a", "0a", "-", "."} {
		put(t, d, name, "")
	}
	if l := d.Names(); !slices.Equal(l, []string{"-", ".", "0a", "a", "a-9", "a.9", "a10", "a9"}) {
		t.Errorf("Names = %q", l)
	}
}
