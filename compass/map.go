package compass

import (
	"compass/api"
	"compass/plane"
)

// Map is shapes by their numbers: how it stands, and all its versions.
// The versions are values, so that none is what a caller has a pointer to.
type Map struct {
	*View
	versions []View
}

// New makes a map without shapes (P7), and with a version without any (P8).
func New() *Map { return &Map{View: &View{}, versions: []View{{}}} }

// Put lays a shape down (P7).
func (m *Map) Put(id int, shape []complex128) api.Errno {
	if !isID(id) {
		return api.ErrID
	}
	if e := checkShape(shape); e != api.OK {
		return e
	}
	if _, e := m.find(id); e == api.OK {
		return api.ErrThere
	}
	m.lay(id, plane.NewShape(shape))
	return api.OK
}

// Drop takes a shape away (P7).
func (m *Map) Drop(id int) api.Errno {
	if _, e := m.find(id); e != api.OK {
		return e
	}
	m.lay(id, nil)
	return api.OK
}

// Turn turns a shape (P7).
func (m *Map) Turn(id int, t api.Turn) api.Errno {
	shape, e := m.Get(id)
	if e != api.OK {
		return e
	}
	turned, e := Apply(t, shape)
	if e != api.OK {
		return e
	}
	m.lay(id, plane.NewShape(turned))
	return api.OK
}

// Commit makes a version of how it stands (P8).
func (m *Map) Commit() int {
	m.versions = append(m.versions, *m.View)
	return len(m.versions) - 1
}

// At is how it stood at a version (P8).
func (m *Map) At(version int) (*View, api.Errno) {
	if version < 0 || version >= len(m.versions) {
		return nil, api.ErrVersion
	}
	stood := m.versions[version]
	return &stood, api.OK
}

// lay makes the map stand with that shape at id, or with none there if it is
// nil. The view that it had stays as it is for whoever holds it.
func (m *Map) lay(id int, shape *plane.Shape) {
	m.View = &View{shapes: m.shapes.With(id, shape)}
}
