package groups_test

import (
	"slices"
	"testing"

	"watershed/api"
	"watershed/groups"
)

// rangesOf returns the ranges of all of some keepers.
func rangesOf(t *testing.T, keepers int) [][2]int {
	t.Helper()
	var all [][2]int
	for keeper := range keepers {
		a, b, e := groups.Range(keeper, keepers)
		if e != api.OK || a < 0 || b > allGroups || a > b {
			t.Fatalf("Range(%d, %d) = %d, %d, %d", keeper, keepers, a, b, e)
		}
		all = append(all, [2]int{a, b})
	}
	return all
}

func TestEveryGroupHasOneOwner(t *testing.T) { // P7.5: it is in exactly one keeper's range, and that keeper is its Owner
	for keepers := 1; keepers <= maxSub; keepers++ {
		all := rangesOf(t, keepers)
		for g := range allGroups {
			owner, e := groups.Owner(g, keepers)
			if e != api.OK || owner < 0 || owner >= keepers {
				t.Errorf("Owner(%d, %d) = %d, %d", g, keepers, owner, e)
			}
			for keeper, r := range all {
				if (r[0] <= g && g < r[1]) != (keeper == owner) {
					t.Errorf("of %d keepers: group %d is owned by %d, Range(%d) = %v", keepers, g, owner, keeper, r)
				}
			}
		}
	}
}

func TestRangesAreAdjacent(t *testing.T) { // P7.5: each begins where the one ahead of it ends
	for keepers := 1; keepers <= maxSub; keepers++ {
		next := 0
		for keeper, r := range rangesOf(t, keepers) {
			if r[0] != next {
				t.Errorf("Range(%d, %d) = %v, want it to begin at %d", keeper, keepers, r, next)
			}
			next = r[1]
		}
		if next != allGroups {
			t.Errorf("of %d keepers the last range ends at %d", keepers, next)
		}
	}
}

func TestGroupsAreShared(t *testing.T) { // P7.5: the numbers of groups of two keepers differ by at most one
	for keepers := 1; keepers <= maxSub; keepers++ {
		all := rangesOf(t, keepers)
		for i, r := range all {
			for k, s := range all {
				if r[1]-r[0] > s[1]-s[0]+1 {
					t.Errorf("of %d keepers: %d has %v, and %d has %v", keepers, i, r, k, s)
				}
			}
		}
	}
}

func TestOwnedGroupsAreThoseOfOwner(t *testing.T) { // P7.5: counted by Owner alone
	for keepers := 1; keepers <= maxSub; keepers++ {
		var counts [maxSub]int
		for g := range allGroups {
			owner, _ := groups.Owner(g, keepers)
			counts[owner]++
		}
		for keeper, r := range rangesOf(t, keepers) {
			if n := counts[keeper]; n != r[1]-r[0] || n < allGroups/keepers || n > (allGroups+keepers-1)/keepers {
				t.Errorf("of %d keepers: %d owns %d groups, Range = %v", keepers, keeper, n, r)
			}
		}
	}
}

func TestEveryPartitionHasOneReader(t *testing.T) { // P7.5
	for readers := 1; readers <= maxSub; readers++ {
		for parts := 1; parts <= maxParts; parts++ {
			var all []int
			for reader := range readers {
				l, e := groups.Parts(reader, readers, parts)
				if e != api.OK || !slices.IsSorted(l) {
					t.Errorf("Parts(%d, %d, %d) = %v, %d", reader, readers, parts, l, e)
				}
				all = append(all, l...)
			}
			slices.Sort(all)
			if len(all) != parts || all[0] != 0 || all[parts-1] != parts-1 || len(slices.Compact(all)) != parts {
				t.Errorf("%d readers, %d partitions: %v", readers, parts, all)
			}
		}
	}
}

func TestMovesLeadFromOwnersToOwners(t *testing.T) { // P7.3: what moves and what stays is then where it belongs; back it is the same
	for from := 1; from <= maxSub; from++ {
		for to := 1; to <= maxSub; to++ {
			var places [allGroups]int
			for g := range places {
				places[g], _ = groups.Owner(g, from)
			}
			rows, _ := groups.Moves(from, to)
			back, _ := groups.Moves(to, from)
			for i, r := range rows {
				if places[r[0]] != r[1] || len(back) != len(rows) || back[i] != [3]int{r[0], r[2], r[1]} {
					t.Fatalf("Moves(%d, %d) = %v, back %v", from, to, rows, back)
				}
				places[r[0]] = r[2]
			}
			for g, place := range places {
				if owner, _ := groups.Owner(g, to); place != owner {
					t.Errorf("Moves(%d, %d): group %d is at %d, want %d", from, to, g, place, owner)
				}
			}
		}
	}
}
