package journal_test

import (
	"bytes"
	"encoding/binary"
	"hash/crc32"
	"strings"
	"testing"

	"watershed/api"
	"watershed/disk"
	"watershed/journal"
)

const (
	maxRecord = 1048576
	maxFile   = 16777216
)

// want reports a call that returned another error than it must.
func want(t *testing.T, call string, got, want api.Errno) {
	t.Helper()
	if got != want {
		t.Errorf("%s = %d, want %d", call, got, want)
	}
}

// frameOf says the chapter again, by other means than the journal's, to hold files against.
func frameOf(rec string) []byte {
	length := binary.LittleEndian.AppendUint32(nil, uint32(len(rec)))
	sum := crc32.ChecksumIEEE(append(length, rec...))
	return append(binary.LittleEndian.AppendUint32(length, sum), rec...)
}

// fileOf returns the bytes of a file that has some records.
func fileOf(records ...string) []byte {
	var b []byte
	for _, r := range records {
		b = append(b, frameOf(r)...)
	}
	return b
}

// withFile returns a disk whose file j has these bytes, all safe, after two operations.
func withFile(t *testing.T, data []byte) *disk.Disk {
	t.Helper()
	d := disk.New()
	want(t, "Append", d.Append("j", data), api.OK)
	want(t, "Sync", d.Sync("j"), api.OK)
	return d
}

// checkRecords reports other records than there must be.
func checkRecords(t *testing.T, got [][]byte, records []string) {
	t.Helper()
	if len(got) != len(records) {
		t.Fatalf("%d records, want %d: %.40q", len(got), len(records), got)
	}
	for i, r := range records {
		if string(got[i]) != r {
			t.Fatalf("record %d is %.40q, want %.40q", i, got[i], r)
		}
	}
}

// open opens the journal j, which must have these records.
func open(t *testing.T, d *disk.Disk, records ...string) *journal.Journal {
	t.Helper()
	j, got, e := journal.Open(d, "j")
	if e != api.OK || j == nil {
		t.Fatalf("Open: a journal %t, %d", j != nil, e)
	}
	checkRecords(t, got, records)
	checkLen(t, j, len(records))
	return j
}

// add adds records, all of which must be taken.
func add(t *testing.T, j *journal.Journal, records ...string) {
	t.Helper()
	for _, r := range records {
		want(t, "Add", j.Add([]byte(r)), api.OK)
	}
}

func checkLen(t *testing.T, j *journal.Journal, n int) {
	t.Helper()
	if got := j.Len(); got != n {
		t.Errorf("Len = %d, want %d", got, n)
	}
}

func checkDeeds(t *testing.T, d *disk.Disk, n int) {
	t.Helper()
	if got := d.Deeds(); got != n {
		t.Errorf("Deeds = %d, want %d", got, n)
	}
}

// checkFile reports a file that is not there, or that has other bytes.
func checkFile(t *testing.T, d *disk.Disk, name string, data []byte) {
	t.Helper()
	if b, e := d.Read(name); e != api.OK || !bytes.Equal(b, data) {
		t.Errorf("the file %s has %d bytes, %.40x, %d, want %d, %.40x", name, len(b), b, e, len(data), data)
	}
}

// checkNoFiles reports files on a disk that must have none.
func checkNoFiles(t *testing.T, d *disk.Disk) {
	t.Helper()
	if l := d.Names(); len(l) != 0 {
		t.Errorf("there are the files %q", l)
	}
}

// checkRefused reports a call of Open that does not return this error, or something beside it.
func checkRefused(t *testing.T, d *disk.Disk, name string, e api.Errno) {
	t.Helper()
	if j, l, got := journal.Open(d, name); j != nil || len(l) != 0 || got != e {
		t.Errorf("Open(%.20q): a journal %t, %.40q, %d, want the error %d alone", name, j != nil, l, got, e)
	}
}

func TestExamples(t *testing.T) {
	d := disk.New()
	j := open(t, d)
	want(t, "Add(ab)", j.Add([]byte("ab")), api.OK)
	want(t, "Add(nothing)", j.Add(nil), api.OK)
	checkLen(t, j, 2)
	checkFile(t, d, "j", []byte("\x02\x00\x00\x00\x3a\x5a\x50\x23ab\x00\x00\x00\x00\x1c\xdf\x44\x21"))

	want(t, "Append(j, 05)", d.Append("j", []byte{5}), api.OK)
	j = open(t, d, "ab", "")
	if b, e := d.Read("j"); e != api.OK || len(b) != 18 {
		t.Errorf("the file has %d bytes, %d, want 18", len(b), e)
	}

	d.Arm(2, 100)
	want(t, "Add(c)", j.Add([]byte("c")), api.ErrDown)
	d.On()
	open(t, d, "ab", "", "c")
}

func TestOpenWithoutADisk(t *testing.T) { // P3.1, R3: before all other errors
	for _, name := range []string{"j", "", "J", strings.Repeat("j", 17)} {
		checkRefused(t, nil, name, api.ErrNil)
	}
}

func TestOpenWhileThePowerIsOff(t *testing.T) { // P3.1, R1: ErrDown comes before ErrName
	whole, torn := fileOf("ab", "c"), append(fileOf("ab", "c"), 5)
	for _, data := range [][]byte{nil, whole, torn} {
		d := withFile(t, data)
		d.Off(0)
		for _, name := range []string{"j", "k", "", "J", "j j", strings.Repeat("j", 17)} {
			checkRefused(t, d, name, api.ErrDown)
		}
		d.On()
		checkFile(t, d, "j", data)
		checkDeeds(t, d, 2)
	}
}

func TestNamesOfJournals(t *testing.T) { // P3.1: file names are those of layer 2
	for n := range 40 {
		for _, c := range []string{"a", "z", "0", "9", ".", "-"} {
			name := strings.Repeat(c, n)
			d := disk.New()
			if n < 1 || n > 16 {
				checkRefused(t, d, name, api.ErrName)
				continue
			}
			j, l, e := journal.Open(d, name)
			if j == nil || len(l) != 0 || e != api.OK {
				t.Fatalf("Open(%q): a journal %t, %q, %d", name, j != nil, l, e)
			}
			add(t, j, "ab")
			checkFile(t, d, name, fileOf("ab"))
		}
	}
	d := disk.New()
	checkRefused(t, d, strings.Repeat("a", 1<<16), api.ErrName)
	for _, name := range []string{"J", "é", "a/b", "a b", "a_b", "a\x00", "a\n", " a", "a ", "a\x80", "\xff"} {
		checkRefused(t, d, name, api.ErrName)
	}
	checkNoFiles(t, d)
	checkDeeds(t, d, 0)
}

func TestBytesOfNames(t *testing.T) { // P3.1: every byte, at the first, a middle and the last place
	const good = "abcdefghijklmnopqrstuvwxyz0123456789.-"
	d := disk.New()
	for c := range 256 {
		e := api.ErrName
		if strings.IndexByte(good, byte(c)) >= 0 {
			e = api.OK
		}
		for _, at := range []int{0, 7, 15} {
			name := bytes.Repeat([]byte{'m'}, 16)
			name[at] = byte(c)
			if _, _, got := journal.Open(d, string(name)); got != e {
				t.Errorf("Open(%q) = %d, want %d", name, got, e)
			}
		}
	}
	checkNoFiles(t, d)
}

func TestOpenOfNoFile(t *testing.T) { // P3.1: it has no records, and is not created
	d := disk.New()
	d.Arm(1, 0) // no operation happens: the failure stays ahead
	for range 3 {
		open(t, d)
		checkNoFiles(t, d)
	}
	checkDeeds(t, d, 0)
	if !d.Up() {
		t.Error("the power has failed")
	}
	d.Arm(0, 0)
	add(t, open(t, d), "x")
	checkFile(t, d, "j", fileOf("x"))
}

func TestOpenOfAnEmptyFile(t *testing.T) { // P3.1: no byte is torn, so nothing is cut
	d := withFile(t, nil)
	j := open(t, d)
	checkDeeds(t, d, 2)
	checkFile(t, d, "j", nil)
	add(t, j, "x", "")
	open(t, d, "x", "")
}

func TestOpenOfWholeFiles(t *testing.T) { // P3.1: the records in order, with no operation
	var records []string
	for n := range 40 {
		d := withFile(t, fileOf(records...))
		d.Arm(1, 0)
		for range 2 {
			open(t, d, records...)
		}
		checkDeeds(t, d, 2)
		checkFile(t, d, "j", fileOf(records...))
		records = append(records, strings.Repeat("x", n*n%50)+strings.Repeat("\x00", n%3)+string(rune('a'+n%26)))
	}
	same := []string{"", "", "a", "a", "", "a"}
	open(t, withFile(t, fileOf(same...)), same...)
}

func TestOpenAsksForTheFileAlone(t *testing.T) { // P3.1: other files stay as they are
	d := withFile(t, append(fileOf("ab"), "torn"...))
	want(t, "Append", d.Append("k", []byte("no frame")), api.OK)
	open(t, d, "ab")
	checkFile(t, d, "j", fileOf("ab"))
	checkFile(t, d, "k", []byte("no frame"))
}

func TestAdd(t *testing.T) { // P3.2: two operations each; the file has the frames, one behind the other
	d := disk.New()
	j := open(t, d)
	var all []string
	for i, r := range []string{"ab", "", "", "\x00", "\xff\xff\xff\xff", strings.Repeat("long ", 1000), "ab", string(fileOf("inner"))} {
		want(t, "Add", j.Add([]byte(r)), api.OK)
		all = append(all, r)
		checkDeeds(t, d, 2*i+2)
		checkLen(t, j, i+1)
		checkFile(t, d, "j", fileOf(all...))
	}
	want(t, "Add(nil)", j.Add(nil), api.OK)
	want(t, "Add(empty)", j.Add([]byte{}), api.OK)
	open(t, d, append(all, "", "")...)
}

func TestAddedRecordsAreSafe(t *testing.T) { // P3.2: the file is synced before Add returns
	d := disk.New()
	j := open(t, d)
	var all []string
	for _, r := range []string{"ab", "", "c"} {
		add(t, j, r)
		all = append(all, r)
		d.Off(0)
		d.On()
		checkFile(t, d, "j", fileOf(all...))
		open(t, d, all...)
	}
}

func TestLen(t *testing.T) { // P3.2: the records at Open, and the Adds since that returned OK
	for n := range 5 {
		d := withFile(t, append(fileOf(make([]string, n)...), 1, 2, 3))
		j, other := open(t, d, make([]string, n)...), open(t, d, make([]string, n)...)
		for i := range 4 {
			checkLen(t, j, n+i)
			want(t, "Add of too much", j.Add(make([]byte, maxRecord+1)), api.ErrLong)
			checkLen(t, j, n+i)
			add(t, j, "x")
		}
		checkLen(t, j, n+4)
		checkLen(t, other, n) // what another journal adds is not counted
	}
}

func TestLongRecords(t *testing.T) { // P3.2: a record has at most 1048576 bytes
	d := disk.New()
	j := open(t, d)
	var all []string
	for _, n := range []int{0, 1, maxRecord - 1, maxRecord} {
		r := strings.Repeat("0123456789abcdefghi", n/19+1)[:n]
		add(t, j, r)
		all = append(all, r)
	}
	deeds := d.Deeds()
	for _, n := range []int{maxRecord + 1, maxRecord + 2, 2 * maxRecord, maxFile, maxFile + 1} {
		want(t, "Add of too much", j.Add(make([]byte, n)), api.ErrLong)
	}
	checkLen(t, j, 4)
	checkDeeds(t, d, deeds)
	checkFile(t, d, "j", fileOf(all...))
	add(t, j, "still usable")
	open(t, d, append(all, "still usable")...)
}

func TestLongRecordsOfANewFile(t *testing.T) { // P3.2, R1: with an error nothing is changed, and no file comes to be
	d := disk.New()
	want(t, "Add of too much", open(t, d).Add(make([]byte, maxRecord+1)), api.ErrLong)
	checkNoFiles(t, d)
	checkDeeds(t, d, 0)
}

func TestFullFiles(t *testing.T) { // P3.2: ErrLong if the file would have too many bytes; the journal can still be used
	d := disk.New()
	j := open(t, d)
	all := make([]string, 15)
	for i := range all {
		all[i] = strings.Repeat(string(rune('a'+i)), maxRecord)
	}
	add(t, j, all...)
	left := maxFile - 15*(maxRecord+8)
	deeds := d.Deeds()
	d.Arm(1, 0) // nothing of what is refused is an operation
	for _, n := range []int{maxRecord, left - 7, left} {
		want(t, "Add of more than the file has room for", j.Add(make([]byte, n)), api.ErrLong)
	}
	d.Arm(0, 0)
	checkLen(t, j, 15)
	checkDeeds(t, d, deeds)
	if b, e := d.Read("j"); e != api.OK || len(b) != maxFile-left {
		t.Fatalf("the file has %d bytes, %d, want %d", len(b), e, maxFile-left)
	}
	all = append(all, "short", strings.Repeat("z", left-8-5-8)) // to the last byte
	add(t, j, all[15:]...)
	want(t, "Add of nothing to a full file", j.Add(nil), api.ErrLong)
	want(t, "Add of a byte to a full file", j.Add([]byte{1}), api.ErrLong)
	checkLen(t, j, 17)
	checkFile(t, d, "j", fileOf(all...))
	j = open(t, d, all...)
	want(t, "Add of nothing to a full file", j.Add(nil), api.ErrLong)

	d.Off(0)
	want(t, "Add to a full file while the power is off", j.Add(nil), api.ErrDown)
}

func TestOrderOfErrorsOfAdd(t *testing.T) { // P3.2, R1: of two errors the one that is named first is returned
	long := make([]byte, maxRecord+1)
	d := disk.New()
	j := open(t, d)
	add(t, j, "ab")
	d.Off(0)
	want(t, "Add of too much while the power is off", j.Add(long), api.ErrLong)
	d.On()
	add(t, j, "c") // no Add returned ErrDown
	d.Off(0)
	want(t, "Add while the power is off", j.Add(nil), api.ErrDown)
	want(t, "Add of too much after ErrDown", j.Add(long), api.ErrDown)
	d.On()
	want(t, "Add of too much after ErrDown, with the power on", j.Add(long), api.ErrDown)
	checkLen(t, j, 2)
	open(t, d, "ab", "c")
}

func TestNilJournal(t *testing.T) { // P3.3, R3: ErrNil comes before all other errors
	var j *journal.Journal
	for range 2 {
		want(t, "Add(nil)", j.Add(nil), api.ErrNil)
		want(t, "Add(ab)", j.Add([]byte("ab")), api.ErrNil)
		want(t, "Add of too much", j.Add(make([]byte, maxRecord+1)), api.ErrNil)
		checkLen(t, j, 0)
	}
}
