package plane

import "compass/api"

// IsBox tells whether two corners are a box's.
func IsBox(b api.Box) bool { return ArePoints(b[:]) && isInOrder(b) }

// isInOrder tells whether no part of the second corner is less than the first
// one's: just then the least box that has both corners is made of them as they
// stand.
func isInOrder(b api.Box) bool { return b == Bounds(b[:]) }

// Bounds is the least box that has all of a list, which is not empty.
func Bounds(points []complex128) api.Box {
	box := api.Box{points[0], points[0]}
	for _, z := range points[1:] {
		box = widen(box, z)
	}
	return box
}

// widen is the least box that has all that box has, and z.
func widen(box api.Box, z complex128) api.Box {
	return api.Box{lesser(box[0], z), greater(box[1], z)}
}

// Has tells whether z is in a box: it need not be widened then.
func Has(box api.Box, z complex128) bool { return widen(box, z) == box }

// Meet tells whether a point is in both boxes: where their greater first and
// their lesser second parts are out of order, nothing lies between.
func Meet(a, b api.Box) bool {
	return isInOrder(api.Box{greater(a[0], b[0]), lesser(a[1], b[1])})
}

// lesser has of each part the lesser one.
func lesser(a, b complex128) complex128 {
	return complex(min(real(a), real(b)), min(imag(a), imag(b)))
}

// greater has of each part the greater one.
func greater(a, b complex128) complex128 {
	return complex(max(real(a), real(b)), max(imag(a), imag(b)))
}

// Place is a point that boxes are held against by how far they are from it. It
// is a type so that its measure can be handed over as a method value.
type Place complex128

// Off is how far a box is: the square of the distance to that point of it which
// is the nearest to the place. No part of the way there is above 2^21, so the
// square is exact.
func (p Place) Off(box api.Box) float64 {
	z := complex128(p)
	way := lesser(greater(z, box[0]), box[1]) - z
	return real(conjugate(way) * way)
}
