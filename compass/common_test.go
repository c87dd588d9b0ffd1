package compass_test

import (
	"math"
	"slices"

	"compass/api"
)

const far = api.MaxPart

var square = []complex128{0, 4, 4 + 3i, 3i}

// noWhole: what is no whole number from -most to most, as either part.
func noWhole(most float64) []complex128 {
	var list []complex128
	for _, x := range []float64{
		0.5, -0.5, most - 0.5, 0.5 - most, most + 1, -most - 1, math.Nextafter(most, 2*most), math.Nextafter(-most, -2*most),
		math.SmallestNonzeroFloat64, -math.SmallestNonzeroFloat64, math.Nextafter(1, 2), math.Nextafter(1, 0), 1e300, -1e300,
		math.MaxFloat64, -math.MaxFloat64, 1 << 31, 1 << 32, 1 << 53, 1 << 62, 1 << 63, -1 << 63, 1 << 64, 1<<32 + 1,
		math.NaN(), math.Inf(1), math.Inf(-1),
	} {
		list = append(list, complex(x, 0), complex(0, x), complex(x, 1), complex(1, x), complex(x, x))
	}
	return list
}

func noPoints() []complex128 { return noWhole(api.MaxPart) }

func noScales() []complex128 { return noWhole(api.MaxScale) }

// isSame: the same numbers, in the same order (-0 is 0).
func isSame(a, b []complex128) bool { return slices.Equal(a, b) }

// backwards: the same shape, gone around the other way.
func backwards(shape []complex128) []complex128 {
	l := slices.Clone(shape)
	slices.Reverse(l)
	return l
}

// with: a copy of the shape that has z at place i.
func with(shape []complex128, i int, z complex128) []complex128 {
	l := slices.Clone(shape)
	l[i] = z
	return l
}

// spiral: n corners around the origin, all points, no two the same.
func spiral(n int) []complex128 {
	var l []complex128
	step, z := complex128(1i), complex128(1)
	for i := range n {
		l = append(l, z*complex(float64(i+1), 0))
		z *= step
	}
	return l
}

// numbers: a row of numbers that look as if they came by chance, the same ones
// at each run.
type numbers uint64

func (n *numbers) next() uint64 {
	*n ^= *n << 13
	*n ^= *n >> 7
	*n ^= *n << 17
	return uint64(*n)
}

// within: a whole number from -most to most.
func (n *numbers) within(most int) int { return int(n.next()%uint64(2*most+1)) - most }

func (n *numbers) point(most int) complex128 {
	return complex(float64(n.within(most)), float64(n.within(most)))
}

func (n *numbers) points(count, most int) []complex128 {
	l := make([]complex128, count)
	for i := range l {
		l[i] = n.point(most)
	}
	return l
}
