// Package compass: shapes in the plane: see DOC.md.
package compass

import (
	"compass/api"
	"compass/plane"
)

// Twice is twice a shape's area (P3).
func Twice(shape []complex128) (int, api.Errno) {
	if e := checkShape(shape); e != api.OK {
		return 0, e
	}
	return plane.Twice(shape), api.OK
}

// Winds tells how often a shape goes around a point (P4).
func Winds(shape []complex128, p complex128) (int, bool, api.Errno) {
	if e := checkShape(shape); e != api.OK {
		return 0, false, e
	}
	if !plane.IsPoint(p) {
		return 0, false, api.ErrPoint
	}
	times, on := plane.Winds(shape, p)
	return times, on, api.OK
}

// Apply turns a shape (P5).
func Apply(t api.Turn, shape []complex128) ([]complex128, api.Errno) {
	if e := checkShape(shape); e != api.OK {
		return nil, e
	}
	if !plane.IsTurn(t) {
		return nil, api.ErrTurn
	}
	turned := plane.MoveAll(t, shape)
	if !plane.ArePoints(turned) {
		return nil, api.ErrFar
	}
	return turned, api.OK
}

// Compose makes one turn of two (P5).
func Compose(t, u api.Turn) (api.Turn, api.Errno) {
	if !plane.IsTurn(t) || !plane.IsTurn(u) {
		return api.Turn{}, api.ErrTurn
	}
	both := plane.Compose(t, u)
	if !plane.IsTurn(both) {
		return api.Turn{}, api.ErrFar
	}
	return both, api.OK
}

// Bounds is a shape's box (P6).
func Bounds(shape []complex128) (api.Box, api.Errno) {
	if e := checkShape(shape); e != api.OK {
		return api.Box{}, e
	}
	return plane.Bounds(shape), api.OK
}

// Hull is what goes around points (P6).
func Hull(points []complex128) ([]complex128, api.Errno) {
	if e := checkPoints(points, 1, api.MaxHull); e != api.OK {
		return nil, e
	}
	return plane.Hull(points), api.OK
}

// checkShape is the error of a list that is no shape.
func checkShape(shape []complex128) api.Errno {
	return checkPoints(shape, api.MinShape, api.MaxShape)
}

// checkPoints is the error of a list that is not of least to most points. The
// count goes first, as every promise names ErrShape ahead of ErrPoint.
func checkPoints(list []complex128, least, most int) api.Errno {
	if len(list) < least || len(list) > most {
		return api.ErrShape
	}
	if !plane.ArePoints(list) {
		return api.ErrPoint
	}
	return api.OK
}

// View is how a map stands.
type View struct{}

// Map is shapes by their numbers: how it stands, and all its versions.
type Map struct {
	*View
}

// New makes a map without shapes (P7). It has a view from the start: what is
// asked of a map is asked of the view that it embeds.
func New() *Map { return &Map{View: &View{}} }

// Put lays a shape down (P7).
func (m *Map) Put(id int, shape []complex128) api.Errno { return api.OK }

// Drop takes a shape away (P7).
func (m *Map) Drop(id int) api.Errno { return api.OK }

// Turn turns a shape (P7).
func (m *Map) Turn(id int, t api.Turn) api.Errno { return api.OK }

// Commit makes a version of how it stands (P8).
func (m *Map) Commit() int { return 0 }

// At is how it stood at a version (P8).
func (m *Map) At(version int) (*View, api.Errno) { return nil, api.OK }

// Count is how many shapes there are (P9).
func (v *View) Count() int { return 0 }

// Get is a shape (P9).
func (v *View) Get(id int) ([]complex128, api.Errno) { return nil, api.OK }

// Window tells which shapes a box meets (P9).
func (v *View) Window(b api.Box) ([]int, api.Errno) { return nil, api.OK }

// Hits tells which shapes a point lies in (P9).
func (v *View) Hits(p complex128) ([]int, api.Errno) { return nil, api.OK }

// Near tells which shapes are the nearest to a point (P9).
func (v *View) Near(p complex128, n int) ([]int, api.Errno) { return nil, api.OK }
