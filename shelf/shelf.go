// Package shelf keeps shapes by their ids. A shelf stays as it is: whoever lays
// a shape on it, or takes one away, gets another shelf, which shares with the
// old one all rows but that of the id.
package shelf

import (
	"iter"

	"compass/api"
	"compass/plane"
)

// width is near the root of the number of ids, so that neither the rows nor
// what is in one are many to copy.
const width = 32

type row [width]*plane.Shape

type rows [api.MaxID/width + 1]*row

// Shelf has shapes by their ids, from 0 to api.MaxID. Its zero value has none.
// It is no more than a pointer, so that whoever keeps many copies little.
type Shelf struct {
	rows *rows
}

// Find is the shape with an id, nil if there is none.
func (s Shelf) Find(id int) *plane.Shape {
	if s.rows == nil || s.rows[id/width] == nil {
		return nil
	}
	return s.rows[id/width][id%width]
}

// With is a shelf that has shape at id, or none there if it is nil, and all
// else as it is here.
func (s Shelf) With(id int, shape *plane.Shape) Shelf {
	others := copied(s.rows)
	changed := copied(others[id/width])
	changed[id%width] = shape
	others[id/width] = changed
	return Shelf{rows: others}
}

// copied is a copy of what old points to, or a zero value if that is nil.
func copied[T any](old *T) *T {
	fresh := new(T)
	if old != nil {
		*fresh = *old
	}
	return fresh
}

// All goes through the shapes in rising order of their ids.
func (s Shelf) All() iter.Seq2[int, *plane.Shape] {
	return func(yield func(int, *plane.Shape) bool) {
		for id := range api.MaxID + 1 {
			if shape := s.Find(id); shape != nil && !yield(id, shape) {
				return
			}
		}
	}
}
