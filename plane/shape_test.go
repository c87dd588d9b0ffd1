package plane

import (
	"slices"
	"testing"

	"compass/api"
)

func TestShapeKeepsACopy(t *testing.T) {
	corners := []complex128{0, 4, 4i}
	shape := NewShape(corners)
	corners[0] = 9
	shape.Corners()[1] = 9
	if got := shape.Corners(); !slices.Equal(got, []complex128{0, 4, 4i}) || shape.Box() != (api.Box{0, 4 + 4i}) {
		t.Errorf("the shape is %v in %v", got, shape.Box())
	}
}

func TestIsHit(t *testing.T) {
	shape := NewShape([]complex128{0, 4, 4i})
	for _, p := range []complex128{0, 4, 4i, 2, 2i, 2 + 2i, 1 + 1i} {
		if !shape.IsHit(p) {
			t.Errorf("%v does not hit", p)
		}
	}
	for _, p := range []complex128{-1, 5, 5i, 3 + 3i, 4 + 4i, 2 + 3i} {
		if shape.IsHit(p) {
			t.Errorf("%v hits", p)
		}
	}
}
