package groups_test

import (
	"slices"
	"testing"

	"watershed/api"
	"watershed/groups"
)

func checkOwner(t *testing.T, group, keepers, want int, e api.Errno) {
	t.Helper()
	if got, err := groups.Owner(group, keepers); got != want || err != e {
		t.Errorf("Owner(%d, %d) = %d, %d, want %d, %d", group, keepers, got, err, want, e)
	}
}

func checkRange(t *testing.T, keeper, keepers, first, end int, e api.Errno) {
	t.Helper()
	if a, b, err := groups.Range(keeper, keepers); a != first || b != end || err != e {
		t.Errorf("Range(%d, %d) = %d, %d, %d, want %d, %d, %d", keeper, keepers, a, b, err, first, end, e)
	}
}

func checkMoves(t *testing.T, from, to int, want [][3]int, e api.Errno) {
	t.Helper()
	if got, err := groups.Moves(from, to); !slices.Equal(got, want) || err != e {
		t.Errorf("Moves(%d, %d) = %v, %d, want %v, %d", from, to, got, err, want, e)
	}
}

func checkParts(t *testing.T, reader, readers, parts int, want []int, e api.Errno) {
	t.Helper()
	if got, err := groups.Parts(reader, readers, parts); !slices.Equal(got, want) || err != e {
		t.Errorf("Parts(%d, %d, %d) = %v, %d, want %v, %d", reader, readers, parts, got, err, want, e)
	}
}

func TestExamples(t *testing.T) { // the chapter's table
	checkHash(t, "", 2166136261)
	checkHash(t, "a", 3826002220)
	if a, b := groups.Group(""), groups.Group("a"); a != 5 || b != 12 {
		t.Errorf("Group of the empty key, of a = %d, %d", a, b)
	}
	checkOwner(t, 5, 3, 0, api.OK)
	checkOwner(t, 6, 3, 1, api.OK)
	checkOwner(t, 15, 3, 2, api.OK)
	checkOwner(t, 16, 3, 0, api.ErrArg)
	checkRange(t, 1, 3, 6, 11, api.OK)
	checkRange(t, 3, 3, 0, 0, api.ErrArg)
	checkMoves(t, 1, 2, [][3]int{{8, 0, 1}, {9, 0, 1}, {10, 0, 1}, {11, 0, 1}, {12, 0, 1}, {13, 0, 1}, {14, 0, 1}, {15, 0, 1}}, api.OK)
	checkParts(t, 1, 3, 7, []int{1, 4}, api.OK)
	checkParts(t, 2, 3, 2, nil, api.OK)
}

func TestOwners(t *testing.T) { // P7.2: each group among each number of keepers
	for i, row := range owners {
		for g, digit := range []byte(row) {
			checkOwner(t, g, i+1, int(digit-'0'), api.OK)
			want, e := secondOwner(g, i+1)
			checkOwner(t, g, i+1, want, e)
		}
	}
}

func TestRanges(t *testing.T) { // P7.2: each keeper among each number of keepers
	for keepers := 1; keepers <= maxSub; keepers++ {
		for keeper := range keepers {
			a, b, e := secondRange(keeper, keepers)
			checkRange(t, keeper, keepers, a, b, e)
		}
	}
	checkRange(t, 0, 1, 0, 16, api.OK)
	checkRange(t, 1, 2, 8, 16, api.OK)
	checkRange(t, 0, 5, 0, 4, api.OK)
	checkRange(t, 3, 7, 7, 10, api.OK)
	checkRange(t, 7, 8, 14, 16, api.OK)
}

func TestMoves(t *testing.T) { // P7.3: from each number to each number
	for from := 1; from <= maxSub; from++ {
		for to := 1; to <= maxSub; to++ {
			want, e := secondMoves(from, to)
			checkMoves(t, from, to, want, e)
		}
	}
}

func TestMovesOfNothing(t *testing.T) { // P7.3: the same number of keepers
	for n := 1; n <= maxSub; n++ {
		checkMoves(t, n, n, nil, api.OK)
	}
}

func TestMovesToMoreAndToFewer(t *testing.T) { // P7.3: the former owner first, then the latter
	checkMoves(t, 2, 1, [][3]int{{8, 1, 0}, {9, 1, 0}, {10, 1, 0}, {11, 1, 0}, {12, 1, 0}, {13, 1, 0}, {14, 1, 0}, {15, 1, 0}}, api.OK)
	checkMoves(t, 2, 3, [][3]int{{6, 0, 1}, {7, 0, 1}, {11, 1, 2}, {12, 1, 2}, {13, 1, 2}, {14, 1, 2}, {15, 1, 2}}, api.OK)
	checkMoves(t, 3, 2, [][3]int{{6, 1, 0}, {7, 1, 0}, {11, 2, 1}, {12, 2, 1}, {13, 2, 1}, {14, 2, 1}, {15, 2, 1}}, api.OK)
	checkMoves(t, 8, 7, [][3]int{{2, 1, 0}, {4, 2, 1}, {6, 3, 2}, {8, 4, 3}, {9, 4, 3}, {10, 5, 4}, {11, 5, 4}, {12, 6, 5}, {13, 6, 5}, {14, 7, 6}, {15, 7, 6}}, api.OK)
}

func TestMovesAreOfOwners(t *testing.T) { // P7.3: the groups that Owner places elsewhere, and only these, with the owners that it tells
	for from := 1; from <= maxSub; from++ {
		for to := 1; to <= maxSub; to++ {
			rows, _ := groups.Moves(from, to)
			at := 0
			for g := range allGroups {
				former, _ := groups.Owner(g, from)
				latter, _ := groups.Owner(g, to)
				if former == latter {
					continue
				}
				if at >= len(rows) || rows[at] != [3]int{g, former, latter} {
					t.Fatalf("Moves(%d, %d) = %v without group %d from %d to %d at place %d", from, to, rows, g, former, latter, at)
				}
				at++
			}
			if at != len(rows) {
				t.Errorf("Moves(%d, %d) = %v, want %d rows", from, to, rows, at)
			}
		}
	}
}

func TestParts(t *testing.T) { // P7.4: each reader among each number of readers, with each number of partitions
	for readers := 1; readers <= maxSub; readers++ {
		for reader := range readers {
			for parts := 1; parts <= maxParts; parts++ {
				want, e := secondParts(reader, readers, parts)
				checkParts(t, reader, readers, parts, want, e)
			}
		}
	}
	checkParts(t, 0, 1, 1, []int{0}, api.OK)
	checkParts(t, 0, 1, 16, []int{0, 1, 2, 3, 4, 5, 6, 7, 8, 9, 10, 11, 12, 13, 14, 15}, api.OK)
	checkParts(t, 0, 8, 16, []int{0, 8}, api.OK)
	checkParts(t, 7, 8, 16, []int{7, 15}, api.OK)
	checkParts(t, 2, 5, 13, []int{2, 7, 12}, api.OK)
	checkParts(t, 2, 5, 12, []int{2, 7}, api.OK)
}

func TestReadersWithoutPartitions(t *testing.T) { // P7.4: there are more readers than partitions
	for parts := 1; parts < maxSub; parts++ {
		for readers := parts + 1; readers <= maxSub; readers++ {
			for reader := range readers {
				if reader < parts {
					checkParts(t, reader, readers, parts, []int{reader}, api.OK)
				} else {
					checkParts(t, reader, readers, parts, nil, api.OK)
				}
			}
		}
	}
}
