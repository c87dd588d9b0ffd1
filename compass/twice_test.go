package compass_test

import (
	"math"
	"slices"
	"testing"

	"compass/api"
	"compass/compass"
)

func TestTwiceOfShapes(t *testing.T) {
	corners := []complex128{complex(-far, -far), complex(far, -far), complex(far, far), complex(-far, far)}
	for _, c := range []struct {
		name  string
		shape []complex128
		want  int
	}{
		{"the document's", square, 24},
		{"the document's, the other way round", []complex128{3i, 4 + 3i, 4, 0}, -24},
		{"on one line", []complex128{0, 2, 1}, 0},
		{"three corners", []complex128{1 + 1i, 2 + 1i, 1 + 2i}, 1},
		{"an odd area, away from the origin", []complex128{-7 - 5i, -4 - 5i, -6 + 2i}, 21},
		{"one place", []complex128{5 - 2i, 5 - 2i, 5 - 2i}, 0},
		{"edges that are points", []complex128{0, 4, 4, 4 + 3i, 4 + 3i, 3i, 3i, 0}, 24},
		{"crosses itself", []complex128{0, 2 + 2i, 2, 2i}, 0},
		{"crosses itself, unevenly", []complex128{0, 6 + 6i, 6, 2i}, -24},
		{"goes around twice", slices.Repeat(square, 2), 48},
		{"32 corners", slices.Repeat(square, 8), 192},
		{"the whole plane", corners, 8 << 40},
		{"the whole plane, the other way round", backwards(corners), -8 << 40},
		{"the whole plane, 8 times", slices.Repeat(corners, 8), 64 << 40},
		{"just not half the plane", []complex128{complex(-far, -far), complex(far, -far), complex(far-1, far-1)}, 2 * far * (2*far - 1)},
		{"a sliver across the plane", []complex128{complex(-far, -far), complex(far, far), complex(far-1, far)}, 2 * far},
		{"-0", []complex128{complex(math.Copysign(0, -1), math.Copysign(0, -1)), 1, 1i}, 1},
	} {
		if n, e := compass.Twice(c.shape); n != c.want || e != api.OK {
			t.Errorf("P3: %s: Twice(%v) = %d, %d, want %d", c.name, c.shape, n, e, c.want)
		}
	}
}

// TestTwiceAsSum holds Twice against the sum of P3, made of integers.
func TestTwiceAsSum(t *testing.T) {
	chance := numbers(1)
	for n := api.MinShape; n <= api.MaxShape; n++ {
		for _, most := range []int{1, 9, 1000, far} {
			shape := chance.points(n, most)
			want := 0
			for i, a := range shape {
				b := shape[(i+1)%n]
				want += int(real(a))*int(imag(b)) - int(imag(a))*int(real(b))
			}
			if got, e := compass.Twice(shape); got != want || e != api.OK {
				t.Errorf("P3: Twice(%v) = %d, %d, want %d", shape, got, e, want)
			}
			if got, e := compass.Twice(backwards(shape)); got != -want || e != api.OK {
				t.Errorf("P3: Twice of %v backwards = %d, %d, want %d", shape, got, e, -want)
			}
		}
	}
}

func TestTwiceOfNoShapes(t *testing.T) {
	for n := range 80 {
		want := api.OK
		if n < 3 || n > 32 {
			want = api.ErrShape
		}
		area, e := compass.Twice(spiral(n))
		if e != want || e != api.OK && area != 0 {
			t.Errorf("P3: Twice of %d points = %d, %d, want the error %d", n, area, e, want)
		}
	}
	if n, e := compass.Twice(nil); n != 0 || e != api.ErrShape {
		t.Errorf("P3: Twice(nil) = %d, %d", n, e)
	}
	if n, e := compass.Twice(make([]complex128, 1<<16)); n != 0 || e != api.ErrShape {
		t.Errorf("P3: Twice of very many points = %d, %d", n, e)
	}
}

func TestTwiceOfNoPoints(t *testing.T) {
	for _, z := range noPoints() {
		for i := range square {
			if n, e := compass.Twice(with(square, i, z)); n != 0 || e != api.ErrPoint {
				t.Errorf("P3: Twice with %v as corner %d = %d, %d", z, i, n, e)
			}
		}
		for _, n := range []int{1, 2, 33} {
			if area, e := compass.Twice(with(spiral(n), 0, z)); area != 0 || e != api.ErrShape {
				t.Errorf("P1: Twice of %d points, %v among them = %d, %d", n, z, area, e)
			}
		}
	}
	if n, e := compass.Twice(with(spiral(32), 31, 0.5)); n != 0 || e != api.ErrPoint {
		t.Errorf("P3: Twice with a last corner that is no point = %d, %d", n, e)
	}
}
