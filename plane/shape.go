package plane

import (
	"slices"

	"compass/api"
)

// Shape is a shape that is kept. Once made it stays as it is, so that whoever
// keeps it may share it: nothing of it is handed out but copies.
type Shape struct {
	corners []complex128
	box     api.Box
}

// NewShape makes a shape of a copy of its corners.
func NewShape(corners []complex128) *Shape {
	return &Shape{corners: slices.Clone(corners), box: Bounds(corners)}
}

// Corners is a new list of the corners.
func (s *Shape) Corners() []complex128 { return slices.Clone(s.corners) }

// Box is the least box that has all the corners.
func (s *Shape) Box() api.Box { return s.box }

// IsHit tells whether p lies on an edge, or the shape goes around it not 0
// times. The box is asked first, because it spares going along the edges.
func (s *Shape) IsHit(p complex128) bool {
	if !Has(s.box, p) {
		return false
	}
	times, on := Winds(s.corners, p)
	return on || times != 0
}
