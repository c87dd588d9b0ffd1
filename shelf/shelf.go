// Package shelf keeps shapes by their ids. A shelf stays as it is: whoever lays
// a shape on it, or takes one away, gets another shelf, which shares with the
// old one all rows but that of the id.
package shelf

import (
	"iter"

	"compass/api"
	"compass/plane"
)

// width is near the root of the number of ids, so that neither the rows nor
// what is in one are many to copy.
const width = 32

type row [width]*plane.Shape

// Shelf has shapes by their ids, from 0 to api.MaxID. Its zero value has none.
type Shelf struct {
	rows [api.MaxID/width + 1]*row
}

// Find is the shape with an id, nil if there is none.
func (s *Shelf) Find(id int) *plane.Shape {
	if old := s.rows[id/width]; old != nil {
		return old[id%width]
	}
	return nil
}

// With is a shelf that has shape at id, or none there if it is nil, and all
// else as it is here.
func (s *Shelf) With(id int, shape *plane.Shape) Shelf {
	var changed row
	if old := s.rows[id/width]; old != nil {
		changed = *old
	}
	changed[id%width] = shape
	other := *s
	other.rows[id/width] = &changed
	return other
}

// All goes through the shapes in rising order of their ids.
func (s *Shelf) All() iter.Seq2[int, *plane.Shape] {
	return func(yield func(int, *plane.Shape) bool) {
		for id := range api.MaxID + 1 {
			if shape := s.Find(id); shape != nil && !yield(id, shape) {
				return
			}
		}
	}
}
