package compass_test

import (
	"cmp"
	"fmt"
	"maps"
	"math"
	"slices"
	"testing"

	"compass/api"
	"compass/compass"
)

// asked: what a view and a map can be asked alike.
type asked interface {
	Count() int
	Get(id int) ([]complex128, api.Errno)
	Window(b api.Box) ([]int, api.Errno)
	Hits(p complex128) ([]int, api.Errno)
	Near(p complex128, n int) ([]int, api.Errno)
}

var wholePlane = api.Box{complex(-far, -far), complex(far, far)}

// tell: the answers to many questions, of each kind some.
func tell(v asked) string {
	text := fmt.Sprint(v.Count())
	for id := -1; id <= 1000; id++ {
		if l, e := v.Get(id); e != api.ErrNone {
			text += fmt.Sprint(" ", id, l, e)
		}
	}
	for _, b := range []api.Box{wholePlane, {0, 0}, {-3, 5 + 2i}, {5, 9 + 9i}, {complex(far, far), complex(far, far)}} {
		l, e := v.Window(b)
		text += fmt.Sprint(" ", l, e)
	}
	for _, p := range []complex128{0, 1 + 1i, -3i, 20 + 20i, complex(far, far), complex(-far, -far)} {
		l, e := v.Hits(p)
		text += fmt.Sprint(" ", l, e)
		for _, n := range []int{0, 1, 3, 100} {
			l, e := v.Near(p, n)
			text += fmt.Sprint(" ", l, e)
		}
	}
	return text
}

// stood: how a map stood at a version that there is.
func stood(t *testing.T, m *compass.Map, version int) *compass.View {
	t.Helper()
	v, e := m.At(version)
	if v == nil || e != api.OK {
		t.Fatalf("P8: At(%d) = %v, %d", version, v, e)
	}
	return v
}

// standings: these shapes as a map stands with them, and as one stood whose
// shapes are others by now.
func standings(t *testing.T, o model) []asked {
	t.Helper()
	m := put(t, o)
	v := stood(t, m, m.Commit())
	for id := range o {
		m.Drop(id)
	}
	for id := range 40 {
		m.Put(id*25, block(complex(float64(id), 0), 2))
	}
	m.Commit()
	return []asked{put(t, o), v}
}

// model: what a map is, told in another way: all in a Go map, asked in integers.
type model map[int][]complex128

func isNoPoint(z complex128) bool {
	_, x := math.Modf(real(z))
	_, y := math.Modf(imag(z))
	return x != 0 || y != 0 || !(max(math.Abs(real(z)), math.Abs(imag(z))) <= far)
}

func (o model) put(id int, shape []complex128) api.Errno {
	switch {
	case id < 0 || id > 999:
		return api.ErrID
	case len(shape) < 3 || len(shape) > 32:
		return api.ErrShape
	case slices.ContainsFunc(shape, isNoPoint):
		return api.ErrPoint
	case o[id] != nil:
		return api.ErrThere
	}
	o[id] = slices.Clone(shape)
	return api.OK
}

func (o model) drop(id int) api.Errno {
	_, e := o.get(id)
	if e == api.OK {
		delete(o, id)
	}
	return e
}

func (o model) turn(id int, t api.Turn) api.Errno {
	shape, e := o.get(id)
	if e != api.OK {
		return e
	}
	turned, e := compass.Apply(t, shape)
	if e == api.OK {
		o[id] = turned
	}
	return e
}

func (o model) get(id int) ([]complex128, api.Errno) {
	switch {
	case id < 0 || id > 999:
		return nil, api.ErrID
	case o[id] == nil:
		return nil, api.ErrNone
	}
	return o[id], api.OK
}

// sides: the sides of a shape's box, or of a box.
func sides(corners []complex128) (left, low, right, high int) {
	left, low, right, high = far, far, -far, -far
	for _, z := range corners {
		left, low = min(left, int(real(z))), min(low, int(imag(z)))
		right, high = max(right, int(real(z))), max(high, int(imag(z)))
	}
	return left, low, right, high
}

// choose: the ids, in rising order, of the shapes that are chosen.
func (o model) choose(is func(shape []complex128) bool) []int {
	var ids []int
	for _, id := range slices.Sorted(maps.Keys(o)) {
		if is(o[id]) {
			ids = append(ids, id)
		}
	}
	return ids
}

func (o model) window(b api.Box) []int {
	left, low, right, high := sides(b[:])
	return o.choose(func(shape []complex128) bool {
		l, d, r, h := sides(shape)
		return !(r < left || right < l || h < low || high < d)
	})
}

func (o model) hits(p complex128) []int {
	return o.choose(func(shape []complex128) bool {
		times, on := windsByAngles(shape, p)
		return on || times != 0
	})
}

// away: how far the box of a shape is from p.
func away(shape []complex128, p complex128) int {
	left, low, right, high := sides(shape)
	x, y := int(real(p)), int(imag(p))
	dx, dy := max(left-x, x-right, 0), max(low-y, y-high, 0)
	return dx*dx + dy*dy
}

func (o model) near(p complex128, n int) []int {
	ids := o.choose(func([]complex128) bool { return true })
	slices.SortStableFunc(ids, func(a, b int) int { return cmp.Compare(away(o[a], p), away(o[b], p)) })
	return ids[:min(n, len(ids))]
}

// holdGets: a view has just the shapes of the model.
func (o model) holdGets(t *testing.T, v asked) {
	t.Helper()
	if v.Count() != len(o) {
		t.Fatalf("P9: Count = %d, want %d", v.Count(), len(o))
	}
	for id := -2; id <= 1002; id++ {
		want, wantErr := o.get(id)
		if l, e := v.Get(id); !isSame(l, want) || e != wantErr {
			t.Fatalf("P9: Get(%d) = %v, %d, want %v, %d", id, l, e, want, wantErr)
		}
	}
}

// holdAsked: a view finds what the model finds.
func (o model) holdAsked(t *testing.T, v asked, b api.Box, p complex128, n int) {
	t.Helper()
	if l, e := v.Window(b); !slices.Equal(l, o.window(b)) || e != api.OK {
		t.Fatalf("P9: Window(%v) = %v, %d, want %v; of %v", b, l, e, o.window(b), o)
	}
	if l, e := v.Hits(p); !slices.Equal(l, o.hits(p)) || e != api.OK {
		t.Fatalf("P9: Hits(%v) = %v, %d, want %v; of %v", p, l, e, o.hits(p), o)
	}
	if l, e := v.Near(p, n); !slices.Equal(l, o.near(p, n)) || e != api.OK {
		t.Fatalf("P9: Near(%v, %d) = %v, %d, want %v; of %v", p, n, l, e, o.near(p, n), o)
	}
	if l, e := v.Window(wholePlane); len(l) != len(o) || e != api.OK {
		t.Fatalf("P10: the whole plane meets %v, %d; of %v", l, e, o)
	}
}
