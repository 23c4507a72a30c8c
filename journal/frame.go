package journal

import (
	"watershed/api"
	"watershed/pack"
)

const (
	wordBytes = 4             // bytes of a length, and of a checksum
	headBytes = 2 * wordBytes // bytes of a frame ahead of its record
)

// framed returns the frame of a record: its length, the checksum, and the record.
func framed(rec []byte) []byte {
	f := make([]byte, headBytes+len(rec))
	putWord(f, uint32(len(rec)))
	copy(f[headBytes:], rec)
	putWord(f[wordBytes:], checksum(f))
	return f
}

// recordsOf returns the records of a file's bytes, and how many bytes behind the last one are torn.
func recordsOf(data []byte) (records [][]byte, torn int) {
	for {
		f := firstFrame(data)
		if f == nil {
			return records, len(data)
		}
		records = append(records, recordOf(f))
		data = data[len(f):]
	}
}

// firstFrame cuts off the frame that data begins with: nil if there is no complete one with the correct checksum.
func firstFrame(data []byte) []byte {
	if len(data) < headBytes {
		return nil
	}
	n := wordAt(data)
	if n > api.MaxRecord || int(n) > len(data)-headBytes {
		return nil
	}
	end := headBytes + int(n)
	f := data[:end:end]
	if wordAt(f[wordBytes:]) != checksum(f) {
		return nil
	}
	return f
}

// recordOf copies the record out of its frame: the caller's records must share no memory, and must not keep the whole file.
func recordOf(frame []byte) []byte {
	rec := make([]byte, len(frame)-headBytes)
	copy(rec, frame[headBytes:])
	return rec
}

// checksum returns the one that belongs into a frame: of the length, so that a wrong one shows, and the record.
func checksum(frame []byte) uint32 {
	// The checksum stands between the two. The length is cut without capacity, so that the record is appended to a copy of it and not over the frame.
	length := frame[:wordBytes:wordBytes]
	return pack.Sum(append(length, frame[headBytes:]...))
}

// putWord writes x into the first bytes of b, the least significant one first.
func putWord(b []byte, x uint32) {
	for i := range wordBytes {
		b[i] = byte(x >> (8 * i))
	}
}

func wordAt(b []byte) uint32 {
	var x uint32
	for i := range wordBytes {
		x |= uint32(b[i]) << (8 * i)
	}
	return x
}
