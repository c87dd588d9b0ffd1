// Package plane measures and turns points, boxes and shapes. Only IsPoint,
// ArePoints, IsTurn and IsBox take any number; whoever calls the others has
// asked these first.
package plane

import (
	"math"

	"compass/api"
)

// IsPoint tells whether z is a point.
func IsPoint(z complex128) bool { return partsAreWhole(z, api.MaxPart) }

// ArePoints tells whether all of a list are points.
func ArePoints(list []complex128) bool {
	for _, z := range list {
		if !IsPoint(z) {
			return false
		}
	}
	return true
}

// IsTurn tells whether t is a turn.
func IsTurn(t api.Turn) bool {
	return partsAreWhole(t.Scale, api.MaxScale) && IsPoint(t.Shift)
}

// partsAreWhole tells whether both parts of z are whole numbers from -most to
// most.
func partsAreWhole(z complex128, most float64) bool {
	return isWhole(real(z), most) && isWhole(imag(z), most)
}

// isWhole asks what x is, not what it is not: what is no number fails every
// comparison, and so is none here.
func isWhole(x, most float64) bool {
	return -most <= x && x <= most && x == math.Trunc(x)
}

// conjugate stands here because the language of the program has no math/cmplx.
func conjugate(z complex128) complex128 { return complex(real(z), -imag(z)) }

// Cross is the cross of a and b: above 0 if b lies to the left of a, seen from
// the origin.
func Cross(a, b complex128) float64 { return imag(conjugate(a) * b) }

// Twice is twice the area of a shape. Each cross is at most 2^41 either way
// and there are at most 32 of them, so the sum of floats is exact.
func Twice(shape []complex128) int {
	sum := 0.0
	from := shape[len(shape)-1]
	for _, to := range shape {
		sum += Cross(from, to)
		from = to
	}
	return int(sum)
}

// Winds tells how often a shape goes around p, or that p lies on an edge.
func Winds(shape []complex128, p complex128) (times int, on bool) {
	from := shape[len(shape)-1] - p
	for _, corner := range shape {
		to := corner - p
		if touchesOrigin(from, to) {
			return 0, true
		}
		times += crossesRay(from, to)
		from = to
	}
	return times, false
}

// touchesOrigin tells whether the origin lies on the edge from a to b: just
// then a and b are opposite as seen from it, or one of them is the origin. The
// product's parts tell both: the cross is 0, and the other part not above 0.
func touchesOrigin(a, b complex128) bool {
	w := conjugate(a) * b
	return imag(w) == 0 && real(w) <= 0
}

// crossesRay is 1 if the edge from a to b crosses the ray that goes from the
// origin to the right upwards, -1 if downwards, else 0. Of an edge only the
// lower end counts as its own, so that a corner on the ray is not counted for
// both of its edges.
func crossesRay(a, b complex128) int {
	switch {
	case imag(a) <= 0 && imag(b) > 0 && Cross(a, b) > 0:
		return 1
	case imag(b) <= 0 && imag(a) > 0 && Cross(a, b) < 0:
		return -1
	}
	return 0
}

// Move is what t makes of z. It may be no point.
func Move(t api.Turn, z complex128) complex128 { return t.Scale*z + t.Shift }

// MoveAll is what t makes of each of a list, in a new list.
func MoveAll(t api.Turn, list []complex128) []complex128 {
	moved := make([]complex128, len(list))
	for i, z := range list {
		moved[i] = Move(t, z)
	}
	return moved
}

// Compose is the turn that does what u does, and then what t does. It may be
// no turn.
func Compose(t, u api.Turn) api.Turn {
	return api.Turn{Scale: t.Scale * u.Scale, Shift: Move(t, u.Shift)}
}
