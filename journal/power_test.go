package journal_test

import (
	"bytes"
	"math"
	"testing"

	"watershed/api"
	"watershed/disk"
)

// keeps are how many bytes that are not safe a failure keeps: negative, 0, fewer and more than there are.
var keeps = []int{math.MinInt, -9, -1, 0, 1, 2, 3, 4, 5, 7, 8, 9, 10, 11, 12, 13, 14, 100, math.MaxInt}

// kept returns what a failure leaves of bytes that are not safe.
func kept(b []byte, keep int) []byte {
	return b[:min(max(keep, 0), len(b))]
}

// checkPower reports whether the power is not as it must be.
func checkPower(t *testing.T, d *disk.Disk, up bool) {
	t.Helper()
	if d.Up() != up {
		t.Errorf("Up = %t, want %t", d.Up(), up)
	}
}

func TestPowerFailsInAdd(t *testing.T) { // P3.2, P3.4: in the Append (1) and in the Sync (2), behind no, one and some records
	const rec = "two22" // a frame of 13 bytes
	for _, head := range heads {
		for _, operation := range []int{1, 2} {
			for _, keep := range keeps {
				d := disk.New()
				j := open(t, d)
				add(t, j, head...)
				d.Arm(operation, keep)
				want(t, "Add", j.Add([]byte(rec)), api.ErrDown)
				checkPower(t, d, false)
				checkDeeds(t, d, 2*len(head)+operation)
				checkLen(t, j, len(head))
				d.On()
				checkFile(t, d, "j", append(fileOf(head...), kept(frameOf(rec), keep)...))
				there := head
				if keep >= len(frameOf(rec)) {
					there = append(head[:len(head):len(head)], rec)
				}
				j = open(t, d, there...)
				checkFile(t, d, "j", fileOf(there...))
				add(t, j, "next")
				open(t, d, append(there[:len(there):len(there)], "next")...)
			}
		}
	}
}

func TestPowerFailsInAddOfNothing(t *testing.T) { // P3.4: a record without bytes is there if its whole frame is
	for _, operation := range []int{1, 2} {
		for _, keep := range keeps {
			d := disk.New()
			j := open(t, d)
			d.Arm(operation, keep)
			want(t, "Add(nothing)", j.Add(nil), api.ErrDown)
			d.On()
			if keep < 8 {
				open(t, d)
			} else {
				open(t, d, "")
			}
		}
	}
}

func TestAddHasTwoOperations(t *testing.T) { // P3.2: a failure during the third one meets the next Add
	d := disk.New()
	j := open(t, d)
	d.Arm(3, 0)
	want(t, "the first Add", j.Add([]byte("a")), api.OK)
	want(t, "the second Add", j.Add([]byte("b")), api.ErrDown)
	checkLen(t, j, 1)
	checkDeeds(t, d, 3)
	d.On()
	open(t, d, "a")
}

func TestDownUntilOpenedAgain(t *testing.T) { // P3.2: whatever the state of the disk is
	for _, operation := range []int{1, 2} {
		for _, keep := range []int{-1, 0, 5, 100} {
			d := disk.New()
			j := open(t, d)
			add(t, j, "one")
			d.Arm(operation, keep)
			want(t, "Add", j.Add([]byte("two")), api.ErrDown)
			deeds := d.Deeds()
			for range 3 {
				want(t, "Add while the power is off", j.Add([]byte("x")), api.ErrDown)
				d.On()
				before, _ := d.Read("j")
				want(t, "Add while the power is on", j.Add([]byte("x")), api.ErrDown)
				want(t, "Add of nothing", j.Add(nil), api.ErrDown)
				checkFile(t, d, "j", before)
				d.Off(0)
			}
			d.On()
			checkDeeds(t, d, deeds)
			checkLen(t, j, 1)
			again, records, e := reopened(d)
			want(t, "Open", e, api.OK)
			want(t, "Add of the journal that is down", j.Add([]byte("x")), api.ErrDown)
			want(t, "Add of the journal that was opened", again.Add([]byte("x")), api.OK)
			want(t, "Add of the journal that is down", j.Add([]byte("x")), api.ErrDown)
			checkLen(t, j, 1)
			open(t, d, append(records, "x")...)
		}
	}
}

func TestAddWhileThePowerIsOff(t *testing.T) { // P3.2: it is no operation, and the journal is down all the same
	d := disk.New()
	j := open(t, d)
	add(t, j, "one")
	d.Off(0)
	want(t, "Add while the power is off", j.Add([]byte("two")), api.ErrDown)
	checkDeeds(t, d, 2)
	d.On()
	want(t, "Add while the power is on", j.Add([]byte("two")), api.ErrDown)
	checkLen(t, j, 1)
	checkFile(t, d, "j", fileOf("one"))
	add(t, open(t, d, "one"), "two")
	open(t, d, "one", "two")
}

func TestPowerFailsBetweenAdds(t *testing.T) { // P3.2: no Add returned ErrDown, so the journal can be used
	d := disk.New()
	j := open(t, d)
	var all []string
	for _, r := range []string{"a", "", "b"} {
		d.Off(0)
		d.On()
		add(t, j, r)
		all = append(all, r)
		d.Off(-1)
		checkLen(t, j, len(all))
		d.On()
	}
	open(t, d, all...)
}

func TestDownIsOfOneJournal(t *testing.T) { // P3.2: an Add of another journal returned ErrDown, not one of this
	d := disk.New()
	j, other := open(t, d), open(t, d)
	add(t, j, "a")
	d.Arm(1, 0)
	want(t, "Add", j.Add([]byte("b")), api.ErrDown)
	d.On()
	add(t, other, "c")
	want(t, "Add of the journal that is down", j.Add([]byte("d")), api.ErrDown)
	add(t, other, "e")
	open(t, d, "a", "c", "e")
}

func TestLongIsNotDown(t *testing.T) { // P3.2: only ErrDown puts a journal down
	d := disk.New()
	want(t, "Append", d.Append("j", bytes.Repeat(frameOf(""), maxFile/8-2)), api.OK)
	j, _, _ := reopened(d)
	for range 3 {
		want(t, "Add of too much", j.Add(make([]byte, 9)), api.ErrLong)
		want(t, "Add of a record that is too long", j.Add(make([]byte, maxRecord+1)), api.ErrLong)
	}
	want(t, "Add of what there is room for", j.Add(make([]byte, 8)), api.OK)
}

func TestPowerFailsInCut(t *testing.T) { // P3.1, P3.4: Open returns ErrDown alone; opening again removes what was kept
	torn := frameOf("torn bytes")[:12]
	for _, head := range heads {
		for _, keep := range keeps {
			d := withFile(t, fileOf(head...))
			want(t, "Append", d.Append("j", torn), api.OK)
			d.Arm(1, keep)
			checkRefused(t, d, "j", api.ErrDown)
			checkPower(t, d, false)
			checkDeeds(t, d, 4)
			checkRefused(t, d, "j", api.ErrDown)
			d.On()
			checkFile(t, d, "j", append(fileOf(head...), kept(torn, keep)...))
			add(t, open(t, d, head...), "next")
			open(t, d, append(head[:len(head):len(head)], "next")...)
		}
	}
}

func TestPowerFailsInCutAgain(t *testing.T) { // P3.1, P3.4: what was kept is safe, so each Open meets the same bytes
	data := append(fileOf("ab", "", "c"), "torn"...)
	d := withFile(t, data)
	for range 5 {
		d.Arm(1, -1)
		checkRefused(t, d, "j", api.ErrDown)
		d.On()
		checkFile(t, d, "j", data)
	}
	open(t, d, "ab", "", "c")
}

func TestPowerFailsInCutBehindUnsafeRecords(t *testing.T) { // P3.1: what the failure kept of them is what is found
	for _, keep := range keeps {
		d := withFile(t, fileOf("ab"))
		rest := append(fileOf("c"), "torn"...) // a frame of 9 bytes, and others
		want(t, "Append", d.Append("j", rest), api.OK)
		d.Arm(1, keep)
		checkRefused(t, d, "j", api.ErrDown)
		d.On()
		checkFile(t, d, "j", append(fileOf("ab"), kept(rest, keep)...))
		if keep < 9 {
			open(t, d, "ab")
		} else {
			open(t, d, "ab", "c")
		}
	}
}
