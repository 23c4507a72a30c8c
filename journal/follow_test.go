package journal_test

import (
	"encoding/binary"
	"hash/crc32"
	"math/rand/v2"
	"slices"
	"testing"

	"watershed/api"
	"watershed/disk"
	"watershed/journal"
)

// reopened opens the journal j, whatever is in it.
func reopened(d *disk.Disk) (*journal.Journal, []string, api.Errno) {
	j, l, e := journal.Open(d, "j")
	var records []string
	for _, r := range l {
		records = append(records, string(r))
	}
	return j, records, e
}

// someBytes yields up to most bytes, the same ones in every run; some of them are frames, or begin like one.
func someBytes(s *rand.Rand, most int) []byte {
	b := make([]byte, s.IntN(most+1))
	for i := range b {
		b[i] = byte(s.Uint32() >> s.IntN(9))
	}
	switch s.IntN(8) {
	case 0:
		return frameOf(string(b))
	case 1:
		return append(frameOf(string(b)), b...)
	case 2:
		return append(make([]byte, s.IntN(9)), b...)
	}
	return b
}

// onlooker knows what an opened journal may contain, from what its calls returned.
type onlooker struct {
	certain []string // their Add returned OK, or they were found
	struck  []byte   // what an Add was given during which the power failed
	met     bool     // there was one
}

// adds adds until an Add returns an error, or the power fails between two.
func (o *onlooker) adds(t *testing.T, s *rand.Rand, d *disk.Disk, j *journal.Journal) {
	t.Helper()
	for {
		if s.IntN(10) == 0 {
			d.Off(s.IntN(20) - 2)
		}
		rec := someBytes(s, 12)
		up := d.Up()
		switch e := j.Add(rec); {
		case e == api.OK && up:
			o.certain = append(o.certain, string(rec))
			continue
		case e == api.ErrDown && up:
			o.struck, o.met = rec, true
		case e != api.ErrDown:
			t.Fatalf("Add = %d, Up = %t", e, up)
		}
		return
	}
}

// after holds what is found against what is known.
func (o *onlooker) after(t *testing.T, found []string) {
	t.Helper()
	more := append(slices.Clone(o.certain), string(o.struck))
	if !slices.Equal(found, o.certain) && (!o.met || !slices.Equal(found, more)) {
		t.Fatalf("found are %q; certain were %q, struck %q, %t", found, o.certain, o.struck, o.met)
	}
	o.certain, o.struck, o.met = found, nil, false
}

func TestRecordsOutlastFailures(t *testing.T) { // P3.4
	struck, lost := 0, 0
	for seed := range uint64(300) {
		s := rand.New(rand.NewPCG(seed, 3))
		d, o := disk.New(), &onlooker{}
		for range 30 {
			d.Arm(1+s.IntN(9), s.IntN(24)-2)
			j, found, e := reopened(d)
			if e == api.OK {
				known := len(o.certain)
				o.after(t, found)
				if len(found) > known {
					struck++
				}
				o.adds(t, s, d, j)
				if j.Len() != len(o.certain) {
					t.Fatalf("Len = %d, want %d", j.Len(), len(o.certain))
				}
			} else if e != api.ErrDown || d.Up() || j != nil || found != nil {
				t.Fatalf("Open: a journal %t, %q, %d", j != nil, found, e)
			} else {
				lost++
			}
			d.On()
		}
	}
	if struck == 0 || lost == 0 {
		t.Errorf("%d records were there after their failure, %d Opens failed: the test has not met both", struck, lost)
	}
}

// split says the chapter again: the records of a file, and how many bytes they take.
func split(data []byte) (records []string, n int) {
	for len(data)-n >= 8 {
		length := binary.LittleEndian.Uint32(data[n:])
		sum := binary.LittleEndian.Uint32(data[n+4:])
		if length > maxRecord || uint64(length) > uint64(len(data)-n-8) {
			break
		}
		rec := data[n+8 : n+8+int(length)]
		if crc32.Update(crc32.ChecksumIEEE(data[n:n+4]), crc32.IEEETable, rec) != sum {
			break
		}
		records = append(records, string(rec))
		n += 8 + len(rec)
	}
	return records, n
}

// damaged changes a file somewhere.
func damaged(s *rand.Rand, data []byte) []byte {
	if len(data) == 0 {
		return someBytes(s, 30)
	}
	from := s.IntN(len(data))
	to := from + s.IntN(len(data)-from)
	switch s.IntN(6) {
	case 0:
		data[from] ^= 1 << s.IntN(8)
	case 1:
		data = data[:from]
	case 2:
		data = slices.Delete(data, from, to)
	case 3:
		data = slices.Insert(data, from, someBytes(s, 12)...)
	case 4:
		data = append(data, data[from:to]...)
	}
	return data
}

func TestAnyBytesOfAFile(t *testing.T) { // P3.1, P3.4: opening repeatedly finds the same records, whatever the bytes are
	s := rand.New(rand.NewPCG(1, 4))
	for range 5000 {
		var data []byte
		for range s.IntN(6) {
			data = append(data, frameOf(string(someBytes(s, 12)))...)
		}
		for range s.IntN(3) {
			data = damaged(s, data)
		}
		records, n := split(data)
		d := withFile(t, data)
		for range 3 {
			open(t, d, records...)
			checkFile(t, d, "j", data[:n])
			if s.IntN(2) == 0 { // what is found was safe, and remains it
				d.Off(0)
				d.On()
			}
		}
		cuts := 0
		if n < len(data) {
			cuts = 1
		}
		checkDeeds(t, d, 2+cuts)
		if t.Failed() {
			t.Fatalf("with the file %x", data)
		}
	}
}

func TestOpeningInTurns(t *testing.T) { // P3.4: a journal that is opened after each record finds them all
	d := disk.New()
	var all []string
	s := rand.New(rand.NewPCG(1, 5))
	for range 100 {
		j := open(t, d, all...)
		for range s.IntN(4) {
			r := someBytes(s, 30)
			add(t, j, string(r))
			all = append(all, string(r))
		}
		if s.IntN(3) == 0 {
			want(t, "Append of torn bytes", d.Append("j", frameOf("torn")[:s.IntN(12)]), api.OK)
		}
	}
	open(t, d, all...)
	checkFile(t, d, "j", fileOf(all...))
}
