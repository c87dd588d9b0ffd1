package plane

import (
	"cmp"
	"slices"
)

// Hull has the corners of the least convex figure around a list, which is not
// empty: counterclockwise, from the least point on. It is a new list.
func Hull(points []complex128) []complex128 {
	sorted := slices.Clone(points)
	slices.SortFunc(sorted, compare)
	sorted = slices.Compact(sorted)
	if len(sorted) == 1 {
		return sorted
	}
	there := rightmostWay(sorted)
	slices.Reverse(sorted)
	back := rightmostWay(sorted)
	// Each way ends where the other one starts: such a corner is told once.
	return append(there[:len(there)-1], back[:len(back)-1]...)
}

// compare orders points by x, and those of one x by y.
func compare(a, b complex128) int {
	return cmp.Or(cmp.Compare(real(a), real(b)), cmp.Compare(imag(a), imag(b)))
}

// rightmostWay goes from the first to the last of sorted points, so that all
// others lie on it or to its left. It bends left at each stop: one where it
// would go straight on is no corner.
func rightmostWay(sorted []complex128) []complex128 {
	var way []complex128
	for _, z := range sorted {
		for len(way) > 1 && !bendsLeft(way[len(way)-2], way[len(way)-1], z) {
			way = way[:len(way)-1]
		}
		way = append(way, z)
	}
	return way
}

// bendsLeft tells whether the way from a to c bends left at b. No part of a
// difference is above 2^21, so the cross is exact.
func bendsLeft(a, b, c complex128) bool { return Cross(b-a, c-b) > 0 }
