// Package compass: shapes in the plane: see DOC.md.
package compass

import (
	"compass/api"
	"compass/plane"
)

// Twice is twice a shape's area (P3).
func Twice(shape []complex128) (int, api.Errno) {
	if e := checkShape(shape); e != api.OK {
		return 0, e
	}
	return plane.Twice(shape), api.OK
}

// Winds tells how often a shape goes around a point (P4).
func Winds(shape []complex128, p complex128) (int, bool, api.Errno) {
	if e := checkShape(shape); e != api.OK {
		return 0, false, e
	}
	if !plane.IsPoint(p) {
		return 0, false, api.ErrPoint
	}
	times, on := plane.Winds(shape, p)
	return times, on, api.OK
}

// Apply turns a shape (P5).
func Apply(t api.Turn, shape []complex128) ([]complex128, api.Errno) {
	if e := checkShape(shape); e != api.OK {
		return nil, e
	}
	if !plane.IsTurn(t) {
		return nil, api.ErrTurn
	}
	turned := plane.MoveAll(t, shape)
	if !plane.ArePoints(turned) {
		return nil, api.ErrFar
	}
	return turned, api.OK
}

// Compose makes one turn of two (P5).
func Compose(t, u api.Turn) (api.Turn, api.Errno) {
	if !plane.IsTurn(t) || !plane.IsTurn(u) {
		return api.Turn{}, api.ErrTurn
	}
	both := plane.Compose(t, u)
	if !plane.IsTurn(both) {
		return api.Turn{}, api.ErrFar
	}
	return both, api.OK
}

// Bounds is a shape's box (P6).
func Bounds(shape []complex128) (api.Box, api.Errno) {
	if e := checkShape(shape); e != api.OK {
		return api.Box{}, e
	}
	return plane.Bounds(shape), api.OK
}

// Hull is what goes around points (P6).
func Hull(points []complex128) ([]complex128, api.Errno) {
	if e := checkPoints(points, 1, api.MaxHull); e != api.OK {
		return nil, e
	}
	return plane.Hull(points), api.OK
}

// checkShape is the error of a list that is no shape.
func checkShape(shape []complex128) api.Errno {
	return checkPoints(shape, api.MinShape, api.MaxShape)
}

// checkPoints is the error of a list that is not of least to most points. The
// count goes first, as every promise names ErrShape ahead of ErrPoint.
func checkPoints(list []complex128, least, most int) api.Errno {
	if len(list) < least || len(list) > most {
		return api.ErrShape
	}
	if !plane.ArePoints(list) {
		return api.ErrPoint
	}
	return api.OK
}
