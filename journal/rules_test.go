package journal_test

import (
	"bytes"
	"slices"
	"strings"
	"testing"
	"unsafe"

	"watershed/api"
	"watershed/disk"
	"watershed/journal"
)

func TestAddCopiesItsRecord(t *testing.T) { // R2: the list is not modified, with its spare capacity, and not retained
	for n := range 70 {
		whole := bytes.Repeat([]byte{0xaa}, n+64)
		before := bytes.Clone(whole)
		rec := strings.Repeat("\xaa", n)
		d := disk.New()
		j := open(t, d)
		add(t, j, "ahead")
		want(t, "Add", j.Add(whole[:n]), api.OK)
		add(t, j, "behind")
		if !bytes.Equal(whole, before) {
			t.Fatalf("the memory of a record of %d bytes is modified", n)
		}
		clear(whole)
		checkFile(t, d, "j", fileOf("ahead", rec, "behind"))
		add(t, j, "more")
		open(t, d, "ahead", rec, "behind", "more")
	}
}

func TestRefusedRecordsAreNotModified(t *testing.T) { // R2: nor are those of an Add that returns an error
	whole := bytes.Repeat([]byte{0xaa}, maxRecord+64)
	before := bytes.Clone(whole)
	d := disk.New()
	j := open(t, d)
	want(t, "Add of too much", j.Add(whole[:maxRecord+1]), api.ErrLong)
	d.Arm(1, 10)
	want(t, "Add", j.Add(whole[:5]), api.ErrDown)
	want(t, "Add", j.Add(whole[:5]), api.ErrDown)
	d.On()
	want(t, "Add of a nil journal", (*journal.Journal)(nil).Add(whole[:5]), api.ErrNil)
	if !bytes.Equal(whole, before) {
		t.Error("the memory of a record is modified")
	}
}

// scribble writes over all memory that a list reaches, and behind it.
func scribble(b []byte) {
	b = b[:cap(b)]
	for i := range b {
		b[i] = '#'
	}
	_ = append(b[:len(b):len(b)], '#')
}

func TestRecordsAreNewMemory(t *testing.T) { // R2: they share none with the disk, nor with one another
	records := []string{"ab", "", "a longer record", "c", "", strings.Repeat("x", 300), "last"}
	for at := range records {
		d := withFile(t, append(fileOf(records...), "torn"...))
		_, first, _ := journal.Open(d, "j")
		_, second, _ := journal.Open(d, "j")
		scribble(first[at])
		first[at] = append(first[at][:0], "################"...)
		for i, r := range records {
			if i != at && string(first[i]) != r {
				t.Fatalf("record %d has become %q by what was written into record %d", i, first[i], at)
			}
		}
		checkRecords(t, second, records)
		checkFile(t, d, "j", fileOf(records...))
		for _, r := range second {
			scribble(r)
		}
		checkFile(t, d, "j", fileOf(records...))
		open(t, d, records...)
	}
}

func TestFoundRecordsStay(t *testing.T) { // R2: what the journal or the disk does later is not seen in them
	d := disk.New()
	add(t, open(t, d), "ab", "c")
	j, l, _ := journal.Open(d, "j")
	add(t, j, "d")
	want(t, "Cut", d.Cut("j", 0), api.OK)
	want(t, "Append", d.Append("j", bytes.Repeat([]byte{'#'}, 100)), api.OK)
	open(t, d)
	checkRecords(t, l, []string{"ab", "c"})
}

func TestListOfRecordsIsNewMemory(t *testing.T) { // R2
	d := withFile(t, fileOf("ab", "c"))
	j, l, _ := journal.Open(d, "j")
	clear(l[:cap(l)])
	_ = append(l[:0], []byte("x"), []byte("y"), []byte("z"))
	checkLen(t, j, 2)
	add(t, j, "d")
	open(t, d, "ab", "c", "d")
}

func TestAFoundRecordIsAddedAgain(t *testing.T) { // R2: a result may be handed in
	d := withFile(t, fileOf("ab", "c"))
	j, l, _ := journal.Open(d, "j")
	for _, r := range l {
		want(t, "Add", j.Add(r), api.OK)
		scribble(r)
	}
	open(t, d, "ab", "c", "ab", "c")
}

func TestNamesAreNotRetained(t *testing.T) { // R2: a journal has a copy of its name, whatever becomes of the caller's memory
	b := []byte("name-of-a-file")
	d := disk.New()
	j, _, e := journal.Open(d, unsafe.String(&b[0], len(b)))
	want(t, "Open", e, api.OK)
	copy(b, "another")
	add(t, j, "ab")
	if l := d.Names(); !slices.Equal(l, []string{"name-of-a-file"}) {
		t.Errorf("Names = %q", l)
	}
}

func TestJournalsAreApart(t *testing.T) { // R2: those of other files, and of other disks, do not affect each other
	d, other := disk.New(), disk.New()
	j, far := open(t, d), open(t, other)
	near, _, e := journal.Open(d, "k")
	want(t, "Open(k)", e, api.OK)
	add(t, j, "a")
	add(t, near, "b", "c")
	add(t, far, "d", "e", "f")
	d.Arm(1, 100)
	want(t, "Add", j.Add([]byte("g")), api.ErrDown)
	add(t, far, "h")
	d.On()
	want(t, "Add", j.Add([]byte("i")), api.ErrDown)
	add(t, near, "k")
	checkLen(t, j, 1)
	checkLen(t, near, 3)
	checkLen(t, far, 4)
	checkFile(t, d, "j", fileOf("a", "g"))
	checkFile(t, d, "k", fileOf("b", "c", "k"))
	checkFile(t, other, "j", fileOf("d", "e", "f", "h"))
}

func TestTwoJournalsOfAFile(t *testing.T) { // R2: each appends to the file as it is
	d := disk.New()
	j, k := open(t, d), open(t, d)
	add(t, j, "a")
	add(t, k, "b", "c")
	add(t, j, "d")
	checkLen(t, j, 2)
	checkLen(t, k, 2)
	open(t, d, "a", "b", "c", "d")
}

func TestLenChangesNothing(t *testing.T) { // R2
	d := disk.New()
	j := open(t, d)
	add(t, j, "a")
	d.Arm(1, 0)
	for range 5 {
		checkLen(t, j, 1)
	}
	checkDeeds(t, d, 2)
	d.Off(0)
	checkLen(t, j, 1)
}

func TestAddsBehindWhatOthersAppended(t *testing.T) { // P3.2: the frame goes to the end of the file, whatever is there
	d := disk.New()
	j := open(t, d)
	add(t, j, "a")
	want(t, "Append of a frame", d.Append("j", frameOf("b")), api.OK)
	add(t, j, "c")
	want(t, "Append of no frame", d.Append("j", []byte("#")), api.OK)
	add(t, j, "d")
	checkLen(t, j, 3)
	checkFile(t, d, "j", slices.Concat(fileOf("a", "b", "c"), []byte("#"), fileOf("d")))
	open(t, d, "a", "b", "c")
}
