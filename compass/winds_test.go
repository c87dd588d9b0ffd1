package compass_test

import (
	"math"
	"slices"
	"testing"

	"compass/api"
	"compass/compass"
)

func TestWindsAroundPlaces(t *testing.T) {
	twice := []complex128{0, 4, 4 + 4i, 4i, 0, 4, 4 + 4i, 4i}
	diamond := []complex128{0, 2 - 2i, 4, 2 + 2i}
	bow := []complex128{0, 4 + 4i, 4, 4i}
	plane := []complex128{complex(-far, -far), complex(far, -far), complex(far, far), complex(-far, far)}
	pentagram := []complex128{10i, -6 - 8i, 10 + 3i, -10 + 3i, 6 - 8i}
	for _, c := range []struct {
		name  string
		shape []complex128
		p     complex128
		want  int
		on    bool
	}{
		{"inside", square, 1 + 1i, 1, false},
		{"inside, the other way round", backwards(square), 1 + 1i, -1, false},
		{"on the right edge", square, 4 + 1i, 0, true},
		{"on the left edge", square, 2i, 0, true},
		{"on the lowest edge", square, 2, 0, true},
		{"on the highest edge", square, 2 + 3i, 0, true},
		{"on the first corner", square, 0, 0, true},
		{"on the second corner", square, 4, 0, true},
		{"on the third corner", square, 4 + 3i, 0, true},
		{"on the last corner", square, 3i, 0, true},
		{"to the right, on the line of an edge", square, 5, 0, false},
		{"to the left, on the line of an edge", square, -1, 0, false},
		{"to the left, on the line of the highest edge", square, -1 + 3i, 0, false},
		{"to the left", square, -1 + 1i, 0, false},
		{"above, on the line of an edge", square, 4 + 4i, 0, false},
		{"below, on the line of an edge", square, -1i, 0, false},
		{"as high as a corner, inside", diamond, 1, 1, false},
		{"as high as a corner, outside", diamond, -1, 0, false},
		{"as high as the highest corner", diamond, 2i, 0, false},
		{"as high as the lowest corner", diamond, -2i, 0, false},
		{"around twice", twice, 2 + 1i, 2, false},
		{"around twice, on an edge", twice, 4 + 1i, 0, true},
		{"around 8 times, clockwise", slices.Repeat(backwards(square), 8), 2 + 1i, -8, false},
		{"there and back", append(slices.Clone(square), 0, 3i, 4+3i, 4), 2 + 1i, 0, false},
		{"the left wing of a bow", bow, 1 + 2i, 1, false},
		{"the right wing of a bow", bow, 3 + 2i, -1, false},
		{"where edges cross", bow, 2 + 2i, 0, true},
		{"the middle of a pentagram", pentagram, 0, 2, false},
		{"a ray of a pentagram", pentagram, 8i, 1, false},
		{"between rays of a pentagram", pentagram, 6 + 6i, 0, false},
		{"edges that are points, inside", []complex128{0, 4, 4, 4 + 4i, 4 + 4i, 0}, 3 + 1i, 1, false},
		{"edges that are points, on one", []complex128{0, 4, 4, 4 + 4i, 4 + 4i, 0}, 4, 0, true},
		{"one place, on it", []complex128{1 + 1i, 1 + 1i, 1 + 1i}, 1 + 1i, 0, true},
		{"one place, as high", []complex128{1 + 1i, 1 + 1i, 1 + 1i}, 1i, 0, false},
		{"one place, below", []complex128{1 + 1i, 1 + 1i, 1 + 1i}, 1, 0, false},
		{"a line, on it", []complex128{0, 6 + 2i, 0}, 3 + 1i, 0, true},
		{"a line, beside it", []complex128{0, 6 + 2i, 0}, 2 + 1i, 0, false},
		{"a line, beyond it", []complex128{0, 6 + 2i, 0}, 9 + 3i, 0, false},
		{"a line, ahead of it", []complex128{0, 6 + 2i, 0}, -3 - 1i, 0, false},
		{"the last edge alone", []complex128{0, 8, 4 + 8i}, 2 + 4i, 0, true},
		{"the plane, its middle", plane, 0, 1, false},
		{"the plane, its corner", plane, complex(far, far), 0, true},
		{"the plane, its least corner", plane, complex(-far, -far), 0, true},
		{"the plane, its side", plane, complex(far, 1), 0, true},
		{"the plane, next to its side", plane, complex(far-1, far-1), 1, false},
		{"next to a long edge, above", []complex128{complex(-far, -far), complex(far, far-1), complex(-far, far-1)}, 0, 1, false},
		{"next to a long edge, below", []complex128{complex(-far, -far), complex(far, far-1), complex(-far, far-1)}, -1i, 0, false},
		{"32 corners", append(slices.Repeat(square, 7), 0, 4, 4+3i, 3i), 1 + 1i, 8, false},
		{"-0", square, complex(math.Copysign(0, -1), math.Copysign(0, -1)), 0, true},
	} {
		if n, on, e := compass.Winds(c.shape, c.p); n != c.want || on != c.on || e != api.OK {
			t.Errorf("P4: %s: Winds(%v, %v) = %d, %v, %d, want %d, %v", c.name, c.shape, c.p, n, on, e, c.want, c.on)
		}
	}
}

// liesOn tells in integers whether p lies on the edge from a to b: on its line,
// and in its box.
func liesOn(a, b, p complex128) bool {
	ax, ay, bx, by, px, py := int(real(a)), int(imag(a)), int(real(b)), int(imag(b)), int(real(p)), int(imag(p))
	return (bx-ax)*(py-ay) == (by-ay)*(px-ax) && min(ax, bx) <= px && px <= max(ax, bx) && min(ay, by) <= py && py <= max(ay, by)
}

// windsByAngles is P4 told in another way: by the angles that the edges are
// seen at.
func windsByAngles(shape []complex128, p complex128) (int, bool) {
	sum := 0.0
	for i, a := range shape {
		b := shape[(i+1)%len(shape)]
		if liesOn(a, b, p) {
			return 0, true
		}
		turn := math.Atan2(imag(b-p), real(b-p)) - math.Atan2(imag(a-p), real(a-p))
		if turn > math.Pi {
			turn -= 2 * math.Pi
		} else if turn < -math.Pi {
			turn += 2 * math.Pi
		}
		sum += turn
	}
	return int(math.Round(sum / (2 * math.Pi))), false
}

func holdWinds(t *testing.T, shape []complex128, p complex128) {
	t.Helper()
	want, wantOn := windsByAngles(shape, p)
	if n, on, e := compass.Winds(shape, p); n != want || on != wantOn || e != api.OK {
		t.Fatalf("P4: Winds(%v, %v) = %d, %v, %d, want %d, %v", shape, p, n, on, e, want, wantOn)
	}
}

// TestWindsOnAGrid goes through all shapes of 3 and of 4 corners on a small
// grid, around each of its places.
func TestWindsOnAGrid(t *testing.T) {
	const side, places = 3, 9
	at := func(i int) complex128 { return complex(float64(i%side), float64(i/side)) - (1 + 1i) }
	for i := range places * places * places * places {
		shape := []complex128{at(i % places), at(i / places % places), at(i / places / places % places), at(i / places / places / places)}
		for j := range places {
			holdWinds(t, shape, at(j))
			holdWinds(t, shape[:3], at(j))
		}
	}
}

func TestWindsByAngles(t *testing.T) {
	chance := numbers(2)
	for n := api.MinShape; n <= api.MaxShape; n++ {
		for range 40 {
			holdWinds(t, chance.points(n, 4), chance.point(4))
			holdWinds(t, chance.points(n, 50), chance.point(30))
		}
	}
}

func TestWindsOfNoShapes(t *testing.T) {
	for n := range 80 {
		want := api.OK
		if n < 3 || n > 32 {
			want = api.ErrShape
		}
		times, on, e := compass.Winds(make([]complex128, n), 0)
		if times != 0 || on != (want == api.OK) || e != want {
			t.Errorf("P4: Winds of %d points = %d, %v, %d, want the error %d", n, times, on, e, want)
		}
		if want == api.OK {
			continue
		}
		if times, on, e := compass.Winds(make([]complex128, n), 0.5); times != 0 || on || e != want {
			t.Errorf("P1: Winds of %d points around no point = %d, %v, %d", n, times, on, e)
		}
	}
	if times, on, e := compass.Winds([]complex128{0.5, 1}, complex(math.NaN(), 0)); times != 0 || on || e != api.ErrShape {
		t.Errorf("P1: Winds of two that are no points around no point = %d, %v, %d", times, on, e)
	}
}

func TestWindsOfNoPoints(t *testing.T) {
	for _, z := range noPoints() {
		if n, on, e := compass.Winds(square, z); n != 0 || on || e != api.ErrPoint {
			t.Errorf("P4: Winds around %v = %d, %v, %d", z, n, on, e)
		}
		for i := range square {
			shape := with(square, i, z)
			// An edge or a corner that p lies on must not be answered ahead of the error.
			for _, p := range []complex128{0, 4, 1 + 1i, z} {
				if n, on, e := compass.Winds(shape, p); n != 0 || on || e != api.ErrPoint {
					t.Errorf("P4: Winds(%v, %v) = %d, %v, %d", shape, p, n, on, e)
				}
			}
		}
	}
}
