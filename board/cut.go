package board

import (
	"slices"
	"sort"

	"sumpter/runs"
)

// cut answers who of a rising list isn't in the set, in the list's own room, and who is, in new memory.
func cut(list []uint64, set runs.Set) (left, gone []uint64) {
	left = list[:0]
	// By runs, for a set may have far more numbers than the list.
	for _, r := range set.Runs() {
		from, _ := slices.BinarySearch(list, r.From)
		to := from + sort.Search(len(list)-from, func(i int) bool { return list[from+i] > r.To })
		left = append(left, list[:from]...)
		gone = append(gone, list[from:to]...)
		list = list[to:]
	}
	return append(left, list...), gone
}
