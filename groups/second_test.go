package groups_test

import (
	"math"
	"strings"

	"watershed/api"
)

// This file reads the chapter a second time, by other means than the program's, to hold every call against it.

// The limits, in the numbers of the document.
const (
	allGroups = 16
	maxSub    = 8
	maxParts  = 16
)

// owners has for each number of keepers, from 1 on, the owner of each group, as a digit: group * keepers / 16, worked out by hand.
var owners = [maxSub]string{
	"0000000000000000",
	"0000000011111111",
	"0000001111122222",
	"0000111122223333",
	"0000111222333444",
	"0001112233344455",
	"0001122333445566",
	"0011223344556677",
}

// numbers are ints within the limits, at their edges and far beyond them; also such whose products with 8 or 16 wrap around to small ones.
var numbers = []int{
	-18, -17, -16, -15, -9, -8, -7, -2, -1,
	0, 1, 2, 3, 4, 5, 6, 7, 8, 9, 10, 11, 12, 13, 14, 15, 16, 17, 18,
	31, 32, 255, 256, 257, 1 << 16, 1 << 28, 1<<31 - 1, 1 << 31, 1 << 32, 1<<32 + 1, 1<<32 + 8, 1 << 59, 1 << 60, 1<<60 + 1, 1 << 61, 1 << 62,
	-256, -255, -1 << 16, -1 << 31, -1 << 32, 1 - 1<<32, -1 << 60, -1 << 61, -1 << 62,
	math.MinInt, math.MinInt + 1, math.MaxInt - 1, math.MaxInt,
}

// secondHash computes in 64 bits, where nothing wraps around, and takes the remainder.
func secondHash(key string) uint32 {
	h := uint64(2166136261)
	for _, b := range []byte(key) {
		h = (h ^ uint64(b)) * 16777619 % (1 << 32)
	}
	return uint32(h)
}

// within tells whether x is from least to most.
func within(x, least, most int) bool {
	return least <= x && x <= most
}

// secondOwner counts how often 16 fits into the product.
func secondOwner(group, keepers int) (int, api.Errno) {
	if !within(group, 0, allGroups-1) || !within(keepers, 1, maxSub) {
		return 0, api.ErrArg
	}
	n := 0
	for left := group * keepers; left >= 16; left -= 16 {
		n++
	}
	return n, api.OK
}

// secondRange looks up the first and the last group with a keeper's digit.
func secondRange(keeper, keepers int) (int, int, api.Errno) {
	if !within(keepers, 1, maxSub) || !within(keeper, 0, keepers-1) {
		return 0, 0, api.ErrArg
	}
	digit := "01234567"[keeper : keeper+1]
	return strings.Index(owners[keepers-1], digit), strings.LastIndex(owners[keepers-1], digit) + 1, api.OK
}

// secondMoves holds the owners' digits against each other.
func secondMoves(from, to int) ([][3]int, api.Errno) {
	if !within(from, 1, maxSub) || !within(to, 1, maxSub) {
		return nil, api.ErrArg
	}
	var rows [][3]int
	for g := range allGroups {
		if a, b := owners[from-1][g], owners[to-1][g]; a != b {
			rows = append(rows, [3]int{g, int(a - '0'), int(b - '0')})
		}
	}
	return rows, api.OK
}

// secondParts asks of every partition whether its difference to the reader is a multiple of readers.
func secondParts(reader, readers, parts int) ([]int, api.Errno) {
	if !within(readers, 1, maxSub) || !within(reader, 0, readers-1) || !within(parts, 1, maxParts) {
		return nil, api.ErrArg
	}
	var list []int
	for p := range parts {
		if (p-reader)%readers == 0 {
			list = append(list, p)
		}
	}
	return list, api.OK
}
