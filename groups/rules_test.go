package groups_test

import (
	"math"
	"math/rand/v2"
	"slices"
	"testing"

	"watershed/api"
	"watershed/groups"
)

func TestErrorsOfOwner(t *testing.T) { // P7.2: each argument alone, and both
	for _, x := range [][2]int{
		{-1, 1}, {16, 1}, {17, 8}, {math.MinInt, 1}, {math.MaxInt, 8}, {1 << 60, 1}, {1 << 61, 8},
		{0, 0}, {15, 0}, {0, -1}, {15, 9}, {0, 9}, {0, 16}, {5, math.MinInt}, {5, math.MaxInt},
		{-1, 0}, {16, 9}, {-1, -1}, {16, 0}, {-1, 9}, {math.MinInt, math.MinInt}, {math.MaxInt, math.MaxInt}, {math.MinInt, math.MaxInt}, {math.MaxInt, math.MinInt},
	} {
		checkOwner(t, x[0], x[1], 0, api.ErrArg)
	}
}

func TestErrorsOfRange(t *testing.T) { // P7.2: each argument alone, and both
	for _, x := range [][2]int{
		{0, 0}, {0, -1}, {0, 9}, {0, 16}, {7, 9}, {0, math.MinInt}, {0, math.MaxInt},
		{-1, 1}, {1, 1}, {-1, 8}, {8, 8}, {3, 3}, {4, 3}, {math.MinInt, 1}, {math.MaxInt, 8},
		{-1, 0}, {8, 9}, {9, 9}, {-1, -1}, {-2, -1}, {16, 16}, {math.MinInt, math.MinInt}, {math.MaxInt, math.MaxInt}, {math.MaxInt - 1, math.MaxInt}, {math.MinInt, math.MaxInt}, {math.MaxInt, math.MinInt},
	} {
		checkRange(t, x[0], x[1], 0, 0, api.ErrArg)
	}
}

func TestErrorsOfMoves(t *testing.T) { // P7.3: each argument alone, and both; also where nothing would move
	for _, wrong := range []int{-1, 0, 9, 16, math.MinInt, math.MaxInt} {
		for right := 1; right <= maxSub; right++ {
			checkMoves(t, wrong, right, nil, api.ErrArg)
			checkMoves(t, right, wrong, nil, api.ErrArg)
		}
		for _, other := range []int{-1, 0, 9, 16, math.MinInt, math.MaxInt} {
			checkMoves(t, wrong, other, nil, api.ErrArg)
		}
	}
}

func TestErrorsOfParts(t *testing.T) { // P7.4: each argument alone, two together, all three
	for _, x := range [][3]int{
		{-1, 3, 7}, {3, 3, 7}, {8, 8, 16}, {1, 1, 16}, {math.MinInt, 3, 7}, {math.MaxInt, 3, 7},
		{0, 0, 7}, {0, -1, 7}, {0, 9, 7}, {0, math.MinInt, 7}, {0, math.MaxInt, 7},
		{0, 3, 0}, {0, 3, -1}, {0, 3, 17}, {0, 3, math.MinInt}, {0, 3, math.MaxInt}, {2, 8, 0}, {2, 8, 17},
		{-1, 0, 7}, {8, 9, 7}, {9, 9, 7}, {-1, 3, 0}, {3, 3, 17}, {3, 3, 0}, {0, 0, 0}, {0, 9, 17}, {0, -1, -1},
		{-1, -1, -1}, {-1, 0, 0}, {9, 9, 17}, {math.MinInt, math.MinInt, math.MinInt}, {math.MaxInt, math.MaxInt, math.MaxInt}, {math.MinInt, math.MaxInt, math.MaxInt}, {math.MaxInt, math.MinInt, math.MinInt},
	} {
		checkParts(t, x[0], x[1], x[2], nil, api.ErrArg)
	}
}

// holdTwo holds all calls with two ints against the second reading.
func holdTwo(t *testing.T, x, y int) {
	t.Helper()
	owner, e := secondOwner(x, y)
	checkOwner(t, x, y, owner, e)
	a, b, e := secondRange(x, y)
	checkRange(t, x, y, a, b, e)
	rows, e := secondMoves(x, y)
	checkMoves(t, x, y, rows, e)
}

// holdThree holds all calls with three ints against the second reading.
func holdThree(t *testing.T, x, y, z int) {
	t.Helper()
	list, e := secondParts(x, y, z)
	checkParts(t, x, y, z, list, e)
}

func TestAllNumbersTogether(t *testing.T) { // P7.2 to P7.4, R1: every combination within the limits and out of them
	for _, x := range numbers {
		for _, y := range numbers {
			holdTwo(t, x, y)
			for _, z := range numbers {
				holdThree(t, x, y, z)
			}
		}
	}
}

func TestNoCallPanics(t *testing.T) { // R1: whatever the ints are
	s := rand.New(rand.NewPCG(7, 2))
	some := func() int { // every other one near the limits, the rest of any length in bits
		if s.IntN(2) == 0 {
			return s.IntN(20) - 1
		}
		return int(s.Uint64()) >> s.IntN(64)
	}
	right := 0
	for range 200000 {
		x, y, z := some(), some(), some()
		holdTwo(t, x, y)
		holdThree(t, x, y, z)
		if _, e := groups.Parts(x, y, z); e == api.OK {
			right++
		}
	}
	if right < 1000 {
		t.Errorf("only %d arbitrary ints are arguments of Parts", right)
	}
}

// spoil overwrites a list and the memory behind it.
func spoil[T any](l []T, wrong T) {
	l = l[:cap(l)]
	for i := range l {
		l[i] = wrong
	}
}

func TestMovesAreNewMemory(t *testing.T) { // R2: what is written into a result changes no other one
	for from := 1; from <= maxSub; from++ {
		for to := 1; to <= maxSub; to++ {
			first, _ := groups.Moves(from, to)
			before := slices.Clone(first)
			second, _ := groups.Moves(from, to)
			spoil(second, [3]int{77, 77, 77})
			if !slices.Equal(first, before) {
				t.Errorf("two results of Moves(%d, %d) share memory", from, to)
			}
			spoil(first, [3]int{-7, -7, -7})
			checkMoves(t, from, to, before, api.OK)
		}
	}
}

func TestPartsAreNewMemory(t *testing.T) { // R2: what is written into a result changes no other one
	for readers := 1; readers <= maxSub; readers++ {
		for reader := range readers {
			for parts := 1; parts <= maxParts; parts++ {
				first, _ := groups.Parts(reader, readers, parts)
				before := slices.Clone(first)
				second, _ := groups.Parts(reader, readers, parts)
				spoil(second, 77)
				if !slices.Equal(first, before) {
					t.Errorf("two results of Parts(%d, %d, %d) share memory", reader, readers, parts)
				}
				spoil(first, -7)
				checkParts(t, reader, readers, parts, before, api.OK)
			}
		}
	}
}

func TestOverwrittenListsChangeNoOtherCall(t *testing.T) { // R2: neither the same call nor one of the others
	for range 3 {
		rows, _ := groups.Moves(1, 8)
		list, _ := groups.Parts(0, 1, 16)
		spoil(rows, [3]int{77, 77, 77})
		spoil(list, 77)
		for x := 0; x <= allGroups; x++ {
			for y := 0; y <= maxSub+1; y++ {
				holdTwo(t, x, y)
				for z := 0; z <= maxParts+1; z++ {
					holdThree(t, x, y, z)
				}
			}
		}
		checkSecond(t, "a")
	}
}

func TestCallsAreApart(t *testing.T) { // R2: a call leaves nothing behind for the next one
	for range 3 {
		checkOwner(t, 15, 8, 7, api.OK)
		checkOwner(t, 15, 9, 0, api.ErrArg)
		checkRange(t, 1, 3, 6, 11, api.OK)
		checkRange(t, -1, 3, 0, 0, api.ErrArg)
		checkMoves(t, 4, 4, nil, api.OK)
		checkMoves(t, 0, 4, nil, api.ErrArg)
		checkParts(t, 1, 2, 4, []int{1, 3}, api.OK)
		checkParts(t, 1, 2, 0, nil, api.ErrArg)
		checkParts(t, 1, 2, 2, []int{1}, api.OK)
		checkHash(t, "", 2166136261)
	}
}
