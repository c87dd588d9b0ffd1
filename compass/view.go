package compass

import (
	"cmp"
	"slices"

	"compass/api"
	"compass/plane"
	"compass/shelf"
)

// View is how a map stands. It stays as it is: a map that changes takes another
// one.
type View struct {
	shapes shelf.Shelf
}

// Count is how many shapes there are (P9).
func (v *View) Count() int {
	count := 0
	for range v.shapes.All() {
		count++
	}
	return count
}

// Get is a shape (P9).
func (v *View) Get(id int) ([]complex128, api.Errno) {
	shape, e := v.find(id)
	if e != api.OK {
		return nil, e
	}
	return shape.Corners(), api.OK
}

// Window tells which shapes a box meets (P9).
func (v *View) Window(b api.Box) ([]int, api.Errno) {
	if !plane.IsBox(b) {
		return nil, api.ErrBox
	}
	return v.ids(func(shape *plane.Shape) bool { return plane.Meet(shape.Box(), b) }), api.OK
}

// Hits tells which shapes a point lies in (P9).
func (v *View) Hits(p complex128) ([]int, api.Errno) {
	if !plane.IsPoint(p) {
		return nil, api.ErrPoint
	}
	return v.ids(func(shape *plane.Shape) bool { return shape.IsHit(p) }), api.OK
}

// Near tells which shapes are the nearest to a point (P9).
func (v *View) Near(p complex128, n int) ([]int, api.Errno) {
	if !plane.IsPoint(p) {
		return nil, api.ErrPoint
	}
	if n < 0 || n > api.MaxCount {
		return nil, api.ErrCount
	}
	return v.nearest(plane.Place(p).Off, n), api.OK
}

// find is the shape with an id, or the error of an id that has none.
func (v *View) find(id int) (*plane.Shape, api.Errno) {
	if !isID(id) {
		return nil, api.ErrID
	}
	shape := v.shapes.Find(id)
	if shape == nil {
		return nil, api.ErrNone
	}
	return shape, api.OK
}

func isID(id int) bool { return 0 <= id && id <= api.MaxID }

// ids has the ids of the shapes that are asked for, in rising order.
func (v *View) ids(isAsked func(*plane.Shape) bool) []int {
	var ids []int
	for id, shape := range v.shapes.All() {
		if isAsked(shape) {
			ids = append(ids, id)
		}
	}
	return ids
}

// distance is how far the shape with an id is.
type distance struct {
	off float64
	id  int
}

// compare puts the lesser distance first, of equal ones that of the lesser id.
func compare(a, b distance) int {
	return cmp.Or(cmp.Compare(a.off, b.off), cmp.Compare(a.id, b.id))
}

// nearest has the ids of the n shapes whose boxes are the least off, or of all
// if there are fewer, the nearest one first.
func (v *View) nearest(off func(api.Box) float64, n int) []int {
	var all []distance
	for id, shape := range v.shapes.All() {
		all = append(all, distance{off: off(shape.Box()), id: id})
	}
	slices.SortFunc(all, compare)
	var ids []int
	for _, d := range all[:min(n, len(all))] {
		ids = append(ids, d.id)
	}
	return ids
}
