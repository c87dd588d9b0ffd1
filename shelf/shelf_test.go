package shelf

import (
	"slices"
	"testing"

	"compass/api"
	"compass/plane"
)

func shape(x float64) *plane.Shape {
	return plane.NewShape([]complex128{complex(x, 0), complex(x, 1), complex(x, 2)})
}

// TestShelvesStay: what is laid on another shelf is not on this one.
func TestShelvesStay(t *testing.T) {
	var empty Shelf
	a, b := shape(1), shape(2)
	one := empty.With(5, a)
	two := one.With(6, b)
	three := two.With(5, nil)
	for _, c := range []struct {
		name      string
		shelf     Shelf
		five, six *plane.Shape
	}{
		{"empty", empty, nil, nil}, {"one", one, a, nil}, {"two", two, a, b}, {"three", three, nil, b},
	} {
		if c.shelf.Find(5) != c.five || c.shelf.Find(6) != c.six || c.shelf.Find(0) != nil || c.shelf.Find(api.MaxID) != nil {
			t.Errorf("%s has changed", c.name)
		}
	}
}

// TestShelvesShareRows: only the row on the way to what changed is another one.
func TestShelvesShareRows(t *testing.T) {
	var old Shelf
	for id := range api.MaxID + 1 {
		old = old.With(id, shape(float64(id)))
	}
	for id := range api.MaxID + 1 {
		other := old.With(id, nil)
		for i := range old.rows {
			if shared := other.rows[i] == old.rows[i]; shared != (i != id/width) {
				t.Fatalf("behind a change at %d row %d is shared: %v", id, i, shared)
			}
		}
	}
}

func TestAllGoesInRisingOrder(t *testing.T) {
	var shelf Shelf
	ids := []int{999, 0, 31, 32, 500, 1, 998}
	for _, id := range ids {
		shelf = shelf.With(id, shape(float64(id)))
	}
	slices.Sort(ids)
	var got []int
	for id, s := range shelf.All() {
		if s != shelf.Find(id) {
			t.Errorf("the shape at %d is another one", id)
		}
		got = append(got, id)
	}
	if !slices.Equal(got, ids) {
		t.Errorf("the ids are %v, want %v", got, ids)
	}
	for range shelf.All() {
		break // to go on behind this would panic
	}
}
