package disk_test

import (
	"math"
	"slices"
	"strconv"
	"testing"

	"watershed/api"
	"watershed/disk"
)

// keeps are values of keep, and how many of n bytes they keep.
var keeps = []struct{ keep, n, kept int }{
	{math.MinInt, 4, 0}, {-5, 4, 0}, {-1, 4, 0}, {0, 4, 0},
	{1, 4, 1}, {3, 4, 3}, {4, 4, 4}, {5, 4, 4}, {1 << 40, 4, 4}, {math.MaxInt, 4, 4},
	{-1, 0, 0}, {0, 0, 0}, {1, 0, 0}, {math.MaxInt, 0, 0},
}

func TestOffKeeps(t *testing.T) { // P2.3
	for _, k := range keeps {
		for _, safe := range []string{"", "xyz"} {
			d := withSafe(t, "a", safe, "pqrs"[:k.n])
			d.Off(k.keep)
			if d.Up() {
				t.Error("the power is on after Off")
			}
			d.On()
			checkFile(t, d, "a", safe+"pqrs"[:k.kept])
			checkDeeds(t, d, 3)
		}
	}
}

func TestKeptBytesAreSafe(t *testing.T) { // P2.3
	for _, k := range keeps {
		d := withSafe(t, "a", "xyz", "pqrs"[:k.n])
		d.Off(k.keep)
		d.On()
		put(t, d, "a", "12")
		d.Off(0)
		d.On()
		checkFile(t, d, "a", "xyz"+"pqrs"[:k.kept])
	}
}

func TestOffIsForAllFiles(t *testing.T) { // P2.3: each file keeps its own safe bytes, and as many others
	d := disk.New()
	put(t, d, "none", "pqrs")
	put(t, d, "all", "pqrs")
	want(t, "Sync", d.Sync("all"), api.OK)
	put(t, d, "some", "xy")
	want(t, "Sync", d.Sync("some"), api.OK)
	put(t, d, "some", "pqrs")
	put(t, d, "few", "p")
	put(t, d, "empty", "")
	d.Off(2)
	d.On()
	for name, bytes := range map[string]string{"none": "pq", "all": "pqrs", "some": "xypq", "few": "p", "empty": ""} {
		checkFile(t, d, name, bytes)
	}
	if l := d.Names(); !slices.Equal(l, []string{"all", "empty", "few", "none", "some"}) {
		t.Errorf("Names = %q", l)
	}
}

func TestOffWhileThePowerIsOff(t *testing.T) { // P2.3: the power fails if it is on
	d := withSafe(t, "a", "xyz", "pqrs")
	d.Off(3)
	d.Off(0)
	d.Off(-1)
	d.Off(math.MaxInt)
	if d.Up() {
		t.Error("the power is on")
	}
	d.On()
	checkFile(t, d, "a", "xyzpqr")
}

func TestOnWhileThePowerIsOn(t *testing.T) { // P2.3: On makes nothing safe, and brings nothing back
	d := withSafe(t, "a", "xyz", "pq")
	d.On()
	checkFile(t, d, "a", "xyzpq")
	d.Off(0)
	d.On()
	d.On()
	if !d.Up() {
		t.Error("the power is off")
	}
	checkFile(t, d, "a", "xyz")
	checkDeeds(t, d, 3)
}

// operations are the three kinds on a file with the safe bytes xyz, and pqrs behind them: which bytes are there when the power fails during one, and when it does not.
var operations = []struct {
	name          string
	does          func(d *disk.Disk) api.Errno
	struck, whole string
	safe          int // of whole
}{
	{"Append", func(d *disk.Disk) api.Errno { return d.Append("a", []byte("12")) }, "xyzpqrs12", "xyzpqrs12", 3},
	{"Append of nothing", func(d *disk.Disk) api.Errno { return d.Append("a", nil) }, "xyzpqrs", "xyzpqrs", 3},
	{"Sync", func(d *disk.Disk) api.Errno { return d.Sync("a") }, "xyzpqrs", "xyzpqrs", 7},
	{"Cut of other bytes", func(d *disk.Disk) api.Errno { return d.Cut("a", 5) }, "xyzpqrs", "xyzpq", 3},
	{"Cut of safe bytes", func(d *disk.Disk) api.Errno { return d.Cut("a", 1) }, "xyzpqrs", "x", 1},
	{"Cut of nothing", func(d *disk.Disk) api.Errno { return d.Cut("a", 7) }, "xyzpqrs", "xyzpqrs", 3},
}

func TestArmedFailure(t *testing.T) { // P2.4: during an Append its bytes are there, during a Sync or Cut nothing has happened
	for _, o := range operations {
		for _, keep := range []int{math.MinInt, -1, 0, 1, 3, 4, 5, 6, 7, math.MaxInt} {
			d := withSafe(t, "a", "xyz", "pqrs")
			d.Arm(1, keep)
			if !d.Up() {
				t.Error("Arm switches the power off")
			}
			want(t, o.name, o.does(d), api.ErrDown)
			if d.Up() {
				t.Errorf("%s: the power has not failed", o.name)
			}
			checkDeeds(t, d, 4)
			want(t, o.name+" while the power is off", o.does(d), api.ErrDown)
			checkDeeds(t, d, 4)
			d.On()
			kept := o.struck[:3+min(max(keep, 0), len(o.struck)-3)]
			checkFile(t, d, "a", kept)
			put(t, d, "a", "more")
			d.Off(0)
			d.On()
			checkFile(t, d, "a", kept)
		}
	}
}

func TestArmedForLater(t *testing.T) { // P2.4: the operations before the n-th one are done, and after the failure the disk is not armed
	for _, o := range operations {
		for n := 2; n <= 6; n++ {
			d := withSafe(t, "a", "xyz", "pqrs")
			d.Arm(n, 0)
			want(t, o.name, o.does(d), api.OK)
			checkFile(t, d, "a", o.whole)
			for range n - 2 {
				want(t, "Append(b)", d.Append("b", []byte("q")), api.OK)
			}
			want(t, "Append(b), the last one", d.Append("b", []byte("q")), api.ErrDown)
			checkDeeds(t, d, 3+n)
			d.On()
			checkFile(t, d, "a", o.whole[:o.safe])
			checkFile(t, d, "b", "")
			for range 2 * n {
				want(t, "Sync(a)", d.Sync("a"), api.OK)
			}
		}
	}
}

func TestArmedFailureCreatesAFile(t *testing.T) { // P2.4: an Append has created the file when the power fails
	for keep, bytes := range []string{"", "x", "xy", "xy"} {
		d := disk.New()
		d.Arm(1, keep)
		want(t, "Append(a, xy)", d.Append("a", []byte("xy")), api.ErrDown)
		if l := d.Names(); len(l) != 0 {
			t.Errorf("Names = %q while the power is off", l)
		}
		d.On()
		checkFile(t, d, "a", bytes)
		if l := d.Names(); !slices.Equal(l, []string{"a"}) {
			t.Errorf("Names = %q, want a", l)
		}
	}
}

func TestArmedFailureIsForAllFiles(t *testing.T) { // P2.4: as by Off(keep)
	for _, o := range operations {
		d := withSafe(t, "a", "xyz", "pqrs")
		put(t, d, "b", "12345")
		d.Arm(1, 3)
		want(t, o.name, o.does(d), api.ErrDown)
		d.On()
		checkFile(t, d, "a", o.struck[:6])
		checkFile(t, d, "b", "123")
	}
}

func TestErrorsAreNoOperations(t *testing.T) { // P2.4: what returns an error does not count for Arm
	d := withSafe(t, "a", "xyz", "pq")
	d.Arm(2, 9)
	wrong := func() {
		t.Helper()
		want(t, "Append(A)", d.Append("A", nil), api.ErrName)
		want(t, "Append of too much", d.Append("a", make([]byte, maxFile)), api.ErrLong)
		want(t, "Sync(b)", d.Sync("b"), api.ErrFile)
		want(t, "Cut(b)", d.Cut("b", 0), api.ErrFile)
		want(t, "Cut(a, 6)", d.Cut("a", 6), api.ErrArg)
		checkFile(t, d, "a", "xyzpq")
	}
	wrong()
	want(t, "Sync(a)", d.Sync("a"), api.OK)
	wrong()
	want(t, "Sync(a)", d.Sync("a"), api.ErrDown)
	checkDeeds(t, d, 5)
}

func TestArmedNoMore(t *testing.T) { // P2.4: n less than 1
	for _, n := range []int{0, -1, -2, math.MinInt} {
		for _, before := range []int{0, 1, 2, 3} {
			d := withSafe(t, "a", "xyz", "pq")
			d.Arm(before, 0)
			d.Arm(n, 1)
			for range 10 {
				want(t, "Sync after Arm("+strconv.Itoa(before)+"), Arm("+strconv.Itoa(n)+")", d.Sync("a"), api.OK)
			}
			checkFile(t, d, "a", "xyzpq")
		}
	}
}

func TestArmedAgain(t *testing.T) { // P2.4: the last Arm holds, and counts from itself on
	for _, first := range []int{2, 3, 5, 100, math.MaxInt} {
		for n := 1; n <= 4; n++ {
			d := withSafe(t, "a", "xyz", "pqrs")
			d.Arm(first, 4)
			want(t, "Append(b)", d.Append("b", nil), api.OK)
			d.Arm(n, 1)
			for range n - 1 {
				want(t, "Append(b)", d.Append("b", nil), api.OK)
			}
			want(t, "Append(b)", d.Append("b", nil), api.ErrDown)
			d.On()
			checkFile(t, d, "a", "xyzp")
		}
	}
	d := disk.New()
	for range 20 { // armed anew before each operation, it never fails
		d.Arm(2, 0)
		put(t, d, "a", "x")
	}
}

func TestArmedWhileThePowerIsOff(t *testing.T) { // P2.4
	for n := 1; n <= 3; n++ {
		d := withSafe(t, "a", "xyz", "pqrs")
		d.Off(4)
		d.Arm(n, 1)
		for range 4 {
			want(t, "Sync while the power is off", d.Sync("a"), api.ErrDown)
		}
		if d.Up() {
			t.Error("Arm switches the power on")
		}
		d.On()
		for range n - 1 {
			put(t, d, "a", "12")
		}
		want(t, "Append", d.Append("a", []byte("34")), api.ErrDown)
		d.On()
		checkFile(t, d, "a", "xyzpqrs"+[]string{"3", "1", "1"}[n-1])
	}
	d := withSafe(t, "a", "xyz", "pq")
	d.Arm(1, 0)
	d.Off(0)
	d.Arm(0, 0)
	d.On()
	for range 5 {
		want(t, "Sync after Arm(0)", d.Sync("a"), api.OK)
	}
}

func TestOffAndOnLeaveItArmed(t *testing.T) { // P2.4
	for offs := range 4 {
		d := withSafe(t, "a", "xyz", "pqrs")
		d.Arm(3, 2)
		for range 2 {
			for range offs {
				d.Off(9)
				d.On()
			}
			put(t, d, "b", "12")
		}
		want(t, "Sync", d.Sync("b"), api.ErrDown)
		d.On()
		checkFile(t, d, "a", []string{"xyzpq", "xyzpqrs"}[min(offs, 1)])
		checkFile(t, d, "b", []string{"12", "1212"}[min(offs, 1)])
		for range 5 {
			want(t, "Sync after the failure", d.Sync("a"), api.OK)
		}
	}
}

func TestNilDisk(t *testing.T) { // P2.5, R3: ErrNil comes before all other errors
	var d *disk.Disk
	for range 2 {
		for _, name := range []string{"a", "", "A"} {
			want(t, "Append", d.Append(name, make([]byte, maxFile+1)), api.ErrNil)
			want(t, "Sync", d.Sync(name), api.ErrNil)
			want(t, "Cut", d.Cut(name, -1), api.ErrNil)
			if b, e := d.Read(name); len(b) != 0 || e != api.ErrNil {
				t.Errorf("Read = %q, %d", b, e)
			}
		}
		if l := d.Names(); len(l) != 0 {
			t.Errorf("Names = %q", l)
		}
		if d.Up() {
			t.Error("Up = true")
		}
		checkDeeds(t, d, 0)
		d.Arm(1, 1)
		d.Off(1)
		d.On()
	}
}
