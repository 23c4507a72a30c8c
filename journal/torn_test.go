package journal_test

import (
	"bytes"
	"encoding/binary"
	"hash/crc32"
	"strings"
	"testing"

	"watershed/api"
	"watershed/disk"
	"watershed/journal"
)

// checkTorn opens a file of which some bytes behind the records are torn: one Cut removes them, and the journal goes on behind the records.
func checkTorn(t *testing.T, torn []byte, records ...string) {
	t.Helper()
	whole := fileOf(records...)
	d := withFile(t, append(bytes.Clone(whole), torn...))
	j := open(t, d, records...)
	checkDeeds(t, d, 3)
	checkFile(t, d, "j", whole)
	open(t, d, records...)
	checkDeeds(t, d, 3)
	add(t, j, "next")
	open(t, d, append(records[:len(records):len(records)], "next")...)
}

// heads are the records ahead of the torn bytes of a test.
var heads = [][]string{{}, {""}, {"ab"}, {"", "ab", strings.Repeat("long ", 100)}}

func TestTornFrames(t *testing.T) { // P3.1: a file that ends inside a length, inside a checksum, inside a record
	for _, head := range heads {
		for _, last := range []string{"", "x", "xyz", "\x00\x00\x00\x00\x00\x00\x00\x00", string(fileOf("inner", ""))} {
			f := frameOf(last)
			for n := 1; n < len(f); n++ {
				checkTorn(t, f[:n], head...)
			}
		}
	}
	f := frameOf(strings.Repeat("x", maxRecord))
	for _, n := range []int{3, 4, 7, 8, 9, maxRecord, maxRecord + 7} {
		checkTorn(t, f[:n], "ab")
	}
}

func TestFewBytesAreTorn(t *testing.T) { // P3.1: fewer than eight are never a frame, whatever they are
	for n := 1; n < 8; n++ {
		for _, c := range []byte{0, 1, 0x80, 0xff} {
			checkTorn(t, bytes.Repeat([]byte{c}, n))
			checkTorn(t, bytes.Repeat([]byte{c}, n), "ab", "")
		}
	}
	checkTorn(t, make([]byte, 8), "ab") // eight zeros: the checksum of the length 0 is another
	checkTorn(t, make([]byte, 4096), "ab")
}

func TestWrongChecksums(t *testing.T) { // P3.1: in the first, a middle and the last record; none behind it counts
	records := []string{"first", "", "middle", "x", "last"}
	for bad := range records {
		for bit := range 32 {
			behind := fileOf(records[bad:]...)
			behind[4+bit/8] ^= 1 << (bit % 8)
			checkTorn(t, behind, records[:bad]...)
		}
	}
}

func TestWrongBytes(t *testing.T) { // P3.1: any bit of a frame that is turned over shows in the checksum
	records := []string{"first", "", "middle", "x", "last"}
	for bad := range records {
		for bit := range 8 * len(frameOf(records[bad])) {
			behind := fileOf(records[bad:]...)
			behind[bit/8] ^= 1 << (bit % 8)
			checkTorn(t, behind, records[:bad]...)
		}
	}
}

// sumOf returns the checksum of bytes as a frame has it.
func sumOf(b []byte) []byte {
	return binary.LittleEndian.AppendUint32(nil, crc32.ChecksumIEEE(b))
}

// frameWith returns a frame whose length may be another than that of its record, with the checksum of both.
func frameWith(length uint32, rec string) []byte {
	l := binary.LittleEndian.AppendUint32(nil, length)
	sum := sumOf(append(l[:4:4], rec...))
	return bytes.Join([][]byte{l, sum, []byte(rec)}, nil)
}

func TestLengthsBeyondTheFile(t *testing.T) { // P3.1: a length beyond the bytes that follow
	for _, rec := range []string{"", "x", "some bytes"} {
		n := uint32(len(rec))
		for _, length := range []uint32{n + 1, n + 2, n + 8, n + 255, maxRecord, 1 << 31, 1<<31 - 1, 1<<32 - 1, 1<<32 - 8, 1<<32 - 9} {
			checkTorn(t, frameWith(length, rec))
			checkTorn(t, frameWith(length, rec), "ab", "")
		}
	}
}

func TestLengthsBeyondTheLimit(t *testing.T) { // P3.1: a length beyond 1048576, with all its bytes and the correct checksum
	for _, n := range []int{maxRecord + 1, maxRecord + 2, 2 * maxRecord} {
		rec := strings.Repeat("x", n)
		checkTorn(t, frameOf(rec))
		checkTorn(t, fileOf(rec, "behind"), "ab", "")
	}
	longest := strings.Repeat("x", maxRecord)
	checkTorn(t, []byte{9}, "ab", longest, "c")
}

func TestLengthsBelowTheRecord(t *testing.T) { // P3.1: a frame ends where its length says; the checksum covers no byte behind it
	open(t, withFile(t, frameWith(2, "ab")), "ab") // with its own length it is a frame
	checkTorn(t, []byte("c"), "ab")
	for n := range uint32(3) {
		checkTorn(t, frameWith(n, "abc"), "x")
	}
}

func TestChecksumsCoverTheLength(t *testing.T) { // P3.1: not the record alone, and not in another order
	for _, rec := range []string{"a", "ab", "\x02\x00\x00\x00"} {
		length := frameOf(rec)[:4]
		for _, covered := range []string{rec, rec + string(length), string(length), string(length[:1]) + rec} {
			checkTorn(t, bytes.Join([][]byte{length, sumOf([]byte(covered)), []byte(rec)}, nil), "x")
		}
	}
}

func TestOtherOrderOfBytes(t *testing.T) { // P3.1: lengths and checksums are little-endian
	rec := strings.Repeat("x", 258)
	f := frameOf(rec)
	for i := range 2 {
		g := bytes.Clone(f)
		w := g[4*i : 4*i+4]
		w[0], w[1], w[2], w[3] = w[3], w[2], w[1], w[0]
		checkTorn(t, g, "ab")
	}
}

func TestFramesInsideTornBytes(t *testing.T) { // P3.1: nothing behind the first torn byte is searched
	for _, torn := range []string{"\x00", "\xff\xff\xff\xff", "garbage", "\x09\x00\x00\x00\x00\x00\x00\x00"} {
		checkTorn(t, append([]byte(torn), fileOf("a", "b", "c")...), "ab")
	}
	checkTorn(t, frameOf(string(fileOf("a", "b")) + "x")[:20], "ab")
}

func TestTornFilesOfAllLengths(t *testing.T) { // P3.1, P3.4: a file that ends at any byte has the records that are complete
	records := []string{"ab", "", "c", string(fileOf("d")), "e"}
	whole := fileOf(records...)
	for n := range len(whole) + 1 {
		full := 0
		for full < len(records) && len(fileOf(records[:full+1]...)) <= n {
			full++
		}
		d := withFile(t, whole[:n])
		open(t, d, records[:full]...)
		checkFile(t, d, "j", fileOf(records[:full]...))
		cuts := 1
		if n == len(fileOf(records[:full]...)) {
			cuts = 0
		}
		checkDeeds(t, d, 2+cuts)
	}
}

func TestLongTornFiles(t *testing.T) { // P3.1, R1: the longest file, all of it torn
	for _, c := range []byte{0, 0xff} {
		data := bytes.Repeat([]byte{c}, maxFile)
		d := disk.New()
		want(t, "Append", d.Append("j", data), api.OK)
		open(t, d)
		checkFile(t, d, "j", nil)
	}
}

func TestManyRecords(t *testing.T) { // P3.1, R1: the longest file, of the shortest records
	d := disk.New()
	want(t, "Append", d.Append("j", bytes.Repeat(frameOf(""), maxFile/8)), api.OK)
	j, l, e := journal.Open(d, "j")
	if e != api.OK || len(l) != maxFile/8 || j.Len() != maxFile/8 {
		t.Errorf("%d records, %d, %d", len(l), j.Len(), e)
	}
	checkDeeds(t, d, 1)
}
