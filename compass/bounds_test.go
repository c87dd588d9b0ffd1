package compass_test

import (
	"math"
	"slices"
	"testing"

	"compass/api"
	"compass/compass"
)

func TestBoundsOfShapes(t *testing.T) {
	for _, c := range []struct {
		name  string
		shape []complex128
		want  api.Box
	}{
		{"the document's", []complex128{1, 3i, -2 + 1i}, api.Box{-2, 1 + 3i}},
		{"a square", square, api.Box{0, 4 + 3i}},
		{"a square, the other way round", backwards(square), api.Box{0, 4 + 3i}},
		{"no corner of the box is one of the shape", []complex128{-3i, 3, 3i, -3}, api.Box{-3 - 3i, 3 + 3i}},
		{"all right of and above the origin", []complex128{5 + 7i, 9 + 6i, 6 + 8i}, api.Box{5 + 6i, 9 + 8i}},
		{"all left of and below the origin", []complex128{-5 - 7i, -9 - 6i, -6 - 8i}, api.Box{-9 - 8i, -5 - 6i}},
		{"one place", []complex128{5 - 2i, 5 - 2i, 5 - 2i}, api.Box{5 - 2i, 5 - 2i}},
		{"corners more than once", []complex128{1, 1, 2i, 2i, 1}, api.Box{0, 1 + 2i}},
		{"an upright line", []complex128{2 + 1i, 2 + 9i, 2 - 4i}, api.Box{2 - 4i, 2 + 9i}},
		{"a lying line", []complex128{1 + 2i, 9 + 2i, -4 + 2i}, api.Box{-4 + 2i, 9 + 2i}},
		{"a slanting line", []complex128{3 - 3i, 0, -3 + 3i}, api.Box{-3 - 3i, 3 + 3i}},
		{"crosses itself", []complex128{0, 2 + 2i, 2, 2i}, api.Box{0, 2 + 2i}},
		{"the whole plane", []complex128{complex(far, -far), complex(-far, far), 0}, api.Box{complex(-far, -far), complex(far, far)}},
		{"the greatest point", slices.Repeat([]complex128{complex(far, far)}, 3), api.Box{complex(far, far), complex(far, far)}},
		{"the least point", slices.Repeat([]complex128{complex(-far, -far)}, 32), api.Box{complex(-far, -far), complex(-far, -far)}},
		{"next to the ends of the plane", []complex128{far - 1, 1 - far, complex(0, far-1), complex(0, 1-far)}, api.Box{complex(1-far, 1-far), complex(far-1, far-1)}},
		{"-0", []complex128{complex(math.Copysign(0, -1), math.Copysign(0, -1)), 1, 1i}, api.Box{0, 1 + 1i}},
	} {
		if b, e := compass.Bounds(c.shape); b != c.want || e != api.OK {
			t.Errorf("P6: %s: Bounds(%v) = %v, %d, want %v", c.name, c.shape, b, e, c.want)
		}
	}
}

// TestBoundsHangOnEachCorner: whichever corner goes beyond all others, the box
// goes as far on that side, and on no other one.
func TestBoundsHangOnEachCorner(t *testing.T) {
	for _, n := range []int{api.MinShape, 4, api.MaxShape} {
		for i := range n {
			for _, c := range []struct {
				z    complex128
				want api.Box
			}{
				{5, api.Box{0, 5}}, {-5, api.Box{-5, 0}}, {5i, api.Box{0, 5i}}, {-5i, api.Box{-5i, 0}},
				{complex(far, -far), api.Box{complex(0, -far), complex(far, 0)}}, {complex(-far, far), api.Box{complex(-far, 0), complex(0, far)}},
			} {
				if b, e := compass.Bounds(with(make([]complex128, n), i, c.z)); b != c.want || e != api.OK {
					t.Errorf("P6: Bounds of %d corners, %v at place %d = %v, %d, want %v", n, c.z, i, b, e, c.want)
				}
			}
		}
	}
}

// TestBoundsAreTheLeastBox: no corner lies outside, and on each side lies one.
func TestBoundsAreTheLeastBox(t *testing.T) {
	chance := numbers(6)
	for n := api.MinShape; n <= api.MaxShape; n++ {
		for _, most := range []int{1, 9, 1000, far} {
			shape := chance.points(n, most)
			var xs, ys []float64
			for _, z := range shape {
				xs, ys = append(xs, real(z)), append(ys, imag(z))
			}
			slices.Sort(xs)
			slices.Sort(ys)
			want := api.Box{complex(xs[0], ys[0]), complex(xs[n-1], ys[n-1])}
			if b, e := compass.Bounds(shape); b != want || e != api.OK {
				t.Errorf("P6: Bounds(%v) = %v, %d, want %v", shape, b, e, want)
			}
		}
	}
}

func TestBoundsOfNoShapes(t *testing.T) {
	refuse := func(shape []complex128) {
		t.Helper()
		if b, e := compass.Bounds(shape); b != (api.Box{}) || e != api.ErrShape {
			t.Errorf("P6: Bounds of %d points = %v, %d, want ErrShape", len(shape), b, e)
		}
	}
	refuse(nil)
	refuse(spiral(1 << 12))
	for n := range 80 {
		if n < 3 || n > 32 {
			refuse(spiral(n))
		} else if b, e := compass.Bounds(spiral(n)); b == (api.Box{}) || e != api.OK {
			t.Errorf("P6: Bounds of %d points = %v, %d", n, b, e)
		}
	}
	for _, z := range noPoints() {
		for _, n := range []int{1, 2, 33, 64} {
			refuse(with(spiral(n), n-1, z))
		}
	}
}

func TestBoundsOfNoPoints(t *testing.T) {
	for _, z := range noPoints() {
		for _, n := range []int{api.MinShape, 4, api.MaxShape} {
			for i := range n {
				if b, e := compass.Bounds(with(spiral(n), i, z)); b != (api.Box{}) || e != api.ErrPoint {
					t.Errorf("P6: Bounds of %d points, %v at place %d = %v, %d, want ErrPoint", n, z, i, b, e)
				}
			}
		}
	}
}
