package groups_test

import (
	"hash/fnv"
	"math/rand/v2"
	"strings"
	"testing"
	"unsafe"

	"watershed/groups"
)

// checkHash reports a key with another hash, or whose group is not its hash modulo 16.
func checkHash(t *testing.T, key string, want uint32) {
	t.Helper()
	if got := groups.Hash(key); got != want {
		t.Errorf("Hash(%.40q), of %d bytes, = %d, want %d", key, len(key), got, want)
	}
	if got := groups.Group(key); got != int(want%16) {
		t.Errorf("Group(%.40q), of %d bytes, = %d, want %d", key, len(key), got, want%16)
	}
}

// checkSecond holds a key against the second reading.
func checkSecond(t *testing.T, key string) {
	t.Helper()
	checkHash(t, key, secondHash(key))
}

func TestHashOfKnownKeys(t *testing.T) { // P7.1: numbers that were worked out elsewhere
	for key, want := range map[string]uint32{
		"":       0x811c9dc5,
		"a":      0xe40c292c,
		"b":      0xe70c2de5,
		"c":      0xe60c2c52,
		"fo":     0x6222e842,
		"foo":    0xa9f37ed7,
		"foobar": 0xbf9cf968,
		"\x00":   0x050c5d1f,
	} {
		checkHash(t, key, want)
	}
}

func TestHashOfOneByte(t *testing.T) { // P7.1: each of the 256
	for b := range 256 {
		checkSecond(t, string([]byte{byte(b)}))
	}
}

func TestHashOfTwoBytes(t *testing.T) { // P7.1: all of them; in the other order they have another hash
	for a := range 256 {
		for b := range 256 {
			key, back := string([]byte{byte(a), byte(b)}), string([]byte{byte(b), byte(a)})
			checkSecond(t, key)
			if a != b && groups.Hash(key) == groups.Hash(back) {
				t.Errorf("%q and %q have the same hash", key, back)
			}
		}
	}
}

func TestOrderOfBytes(t *testing.T) { // P7.1: keys with the same bytes, of which each has its own hash
	seen := map[uint32]string{}
	for _, key := range []string{"abc", "acb", "bac", "bca", "cab", "cba", "\x00ab", "a\x00b", "ab\x00", "\x80\xff", "\xff\x80", "0123456789abcdef", "1023456789abcdef", "0123456789abcdfe", "fedcba9876543210"} {
		checkSecond(t, key)
		if other, ok := seen[groups.Hash(key)]; ok {
			t.Errorf("%q and %q have the same hash", key, other)
		}
		seen[groups.Hash(key)] = key
	}
}

func TestHashOfBytesNotRunes(t *testing.T) { // P7.1: high bytes, right UTF-8 and wrong
	for _, key := range []string{
		"é", "e\u0301", "É", "日本語", "\U0001f600", "\ufffd", "\u0080", "\u00ff", "a\u00e9b",
		"\x80", "\xff", "\x80\x80", "\xc3", "\xc3(", "\xa9\xc3", "\xe6\x97", "\xed\xa0\x80", "\xf8\x88\x80\x80\x80", "\xc0\x80", "a\xffb", "\xef\xbf\xbd", "\xff\xfe\xfd\xfc",
	} {
		checkSecond(t, key)
	}
	if groups.Hash("\xff") == groups.Hash("\ufffd") || groups.Hash("\x80") == groups.Hash("\xff") || groups.Hash("\xff") == groups.Hash("\u00ff") {
		t.Error("bytes that are no UTF-8 have the hash of others")
	}
}

func TestHashOfZeroBytes(t *testing.T) { // P7.1: they count, wherever they are
	for _, key := range []string{"\x00", "\x00\x00", "a", "a\x00", "\x00a", "a\x00b", "ab\x00", "a\x00\x00b", strings.Repeat("\x00", 16), strings.Repeat("\x00", 17)} {
		checkSecond(t, key)
	}
	if groups.Hash("a") == groups.Hash("a\x00") || groups.Hash("") == groups.Hash("\x00") || groups.Hash("a\x00b") == groups.Hash("a\x00c") {
		t.Error("a key ends at a zero byte")
	}
}

func TestHashOfLongKeys(t *testing.T) { // P7.1, R1: also of such as no record may have
	for n := range 600 {
		checkSecond(t, strings.Repeat("k", n))
		checkSecond(t, strings.Repeat("\xfe", n))
	}
	for _, n := range []int{1 << 16, 1<<16 + 1, 1 << 20, 1 << 24} {
		checkSecond(t, strings.Repeat("ab\x00\xff", n/4)+strings.Repeat("z", n%4))
	}
	a, b := strings.Repeat("k", 1<<16), strings.Repeat("k", 1<<16-1)+"l"
	if groups.Hash(a) == groups.Hash(b) {
		t.Error("the last byte of a long key does not count")
	}
}

func TestManyKeys(t *testing.T) { // P7.1: against the second reading, and against the library's FNV-1a, which is the same function
	s := rand.New(rand.NewPCG(7, 1))
	var met [allGroups]int
	for range 100000 {
		key := make([]byte, s.IntN(40))
		for i := range key {
			key[i] = byte(s.Uint32())
		}
		checkSecond(t, string(key))
		h := fnv.New32a()
		h.Write(key)
		checkHash(t, string(key), h.Sum32())
		met[groups.Group(string(key))]++
	}
	for g, n := range met {
		if n < 1000 {
			t.Errorf("only %d keys are in group %d", n, g)
		}
	}
}

func TestKeysAreNotModifiedOrRetained(t *testing.T) { // R2: whatever becomes of the caller's memory
	b := []byte("clicks")
	key := unsafe.String(&b[0], len(b))
	for _, now := range []string{"clicks", "######", "\xff\x00\xff\x00\xff\x00", "clicks"} {
		copy(b, now)
		checkSecond(t, key)
		if string(b) != now {
			t.Errorf("the memory of a key has become %q, want %q", b, now)
		}
	}
}
