package compass_test

import (
	"cmp"
	"math"
	"slices"
	"testing"

	"compass/api"
	"compass/compass"
)

// bowl: n points of which each is a corner of their hull, counterclockwise from
// the least one on, as far as the ends of the plane upwards.
func bowl(n int) []complex128 {
	l := make([]complex128, n)
	for i := range l {
		x := 1024 - 32*float64(n-1-i)
		l[i] = complex(x, x*x)
	}
	return l
}

func TestHullOfPoints(t *testing.T) {
	corners := []complex128{complex(-far, -far), complex(far, -far), complex(far, far), complex(-far, far)}
	minus := math.Copysign(0, -1)
	for _, c := range []struct {
		name         string
		points, want []complex128
	}{
		{"the document's", []complex128{0, 1, 2, 2 + 2i, 1 + 1i}, []complex128{0, 2, 2 + 2i}},
		{"the document's line", []complex128{3, 1, 2}, []complex128{1, 3}},
		{"one point", []complex128{7 - 2i}, []complex128{7 - 2i}},
		{"one point, twice", []complex128{7 - 2i, 7 - 2i}, []complex128{7 - 2i}},
		{"one point, 64 times", slices.Repeat([]complex128{7 - 2i}, 64), []complex128{7 - 2i}},
		{"two points", []complex128{1 + 2i, 3}, []complex128{1 + 2i, 3}},
		{"two points, the greater one first", []complex128{3, 1 + 2i}, []complex128{1 + 2i, 3}},
		{"two points of one x", []complex128{1 + 5i, 1 - 5i}, []complex128{1 - 5i, 1 + 5i}},
		{"two points, more than once", []complex128{3, 1, 3, 3, 1}, []complex128{1, 3}},
		{"a lying line", []complex128{5 + 2i, 9 + 2i, -4 + 2i, 0 + 2i}, []complex128{-4 + 2i, 9 + 2i}},
		{"an upright line", []complex128{2 + 5i, 2 + 9i, 2 - 4i, 2}, []complex128{2 - 4i, 2 + 9i}},
		{"a rising line", []complex128{4 + 2i, 2 + 1i, 6 + 3i, 0}, []complex128{0, 6 + 3i}},
		{"a falling line", []complex128{4 - 2i, 2 - 1i, 6 - 3i, 0}, []complex128{0, 6 - 3i}},
		{"a line, its ends more than once", []complex128{6, 0, 3, 0, 6, 3, 6}, []complex128{0, 6}},
		{"a line of 64", column(64), []complex128{0, 63i}},
		{"a triangle", []complex128{0, 4, 3i}, []complex128{0, 4, 3i}},
		{"a triangle, clockwise", []complex128{0, 3i, 4}, []complex128{0, 4, 3i}},
		{"a triangle, from another corner on", []complex128{3i, 4, 0}, []complex128{0, 4, 3i}},
		{"its corners more than once", []complex128{4, 0, 4, 3i, 0, 3i, 3i}, []complex128{0, 4, 3i}},
		{"points on each edge", []complex128{2, 4, 4 + 1i, 4 + 4i, 1 + 4i, 4i, 3i, 0, 1, 4 + 3i, 2i}, []complex128{0, 4, 4 + 4i, 4i}},
		{"points on slanting edges", []complex128{-2 + 1i, -3i, 1 - 2i, 3, 2 + 1i, 3i, -3, -1 - 2i}, []complex128{-3, -3i, 3, 3i}},
		{"points inside", []complex128{1 + 1i, 0, 2 + 1i, 4, 1 + 2i, 3i, 1 + 1i}, []complex128{0, 4, 3i}},
		{"several with the least x", []complex128{4i, 3 + 1i, 2i, 1i, 3i}, []complex128{1i, 3 + 1i, 4i}},
		{"several with the least x, the lowest not the lowest of all", []complex128{2i, 5 - 9i, 1i, 6i}, []complex128{1i, 5 - 9i, 6i}},
		{"several with the greatest x", []complex128{0, 3 + 1i, 3, 3 - 1i, 3 + 2i}, []complex128{0, 3 - 1i, 3 + 2i}},
		{"a cave", []complex128{0, 4, 2 + 1i, 4 + 4i, 4i}, []complex128{0, 4, 4 + 4i, 4i}},
		{"all below the origin", []complex128{-5 - 5i, -9 - 5i, -7 - 9i, -7 - 6i}, []complex128{-9 - 5i, -7 - 9i, -5 - 5i}},
		{"the whole plane", []complex128{corners[2], 0, corners[0], corners[3], far, corners[1], -far}, corners},
		{"across the plane", []complex128{corners[2], 0, corners[0], 1 + 1i}, []complex128{corners[0], corners[2]}},
		{"across the plane, falling", []complex128{corners[1], 0, corners[3]}, []complex128{corners[3], corners[1]}},
		{"just left of a long line", []complex128{corners[0], complex(far, far-1), complex(1-far, 1-far)}, []complex128{corners[0], complex(far, far-1), complex(1-far, 1-far)}},
		{"just right of a long line", []complex128{corners[0], complex(far, far-1), complex(far-1, far-2)}, []complex128{corners[0], complex(far-1, far-2), complex(far, far-1)}},
		{"a bend right as slight as can be", []complex128{0, 514229 + 317811i, -832040 - 514229i}, []complex128{-832040 - 514229i, 514229 + 317811i, 0}},
		{"a bend left as slight as can be", []complex128{0, 514229 - 317811i, -832040 + 514229i}, []complex128{-832040 + 514229i, 0, 514229 - 317811i}},
		{"-0", []complex128{complex(minus, 1), complex(0, minus), complex(minus, minus), complex(0, 2), 0, 1}, []complex128{0, 1, 2i}},
		{"-0 alone", []complex128{complex(minus, 0), complex(0, minus), 0}, []complex128{0}},
		{"a bowl of 64", bowl(64), bowl(64)},
		{"a bowl of 64, the other way round", backwards(bowl(64)), bowl(64)},
	} {
		if h, e := compass.Hull(c.points); !isSame(h, c.want) || e != api.OK {
			t.Errorf("P6: %s: Hull(%v) = %v, %d, want %v", c.name, c.points, h, e, c.want)
		}
	}
}

// column: n points above each other.
func column(n int) []complex128 {
	l := make([]complex128, n)
	for i := range l {
		l[i] = complex(0, float64(n-1-i))
	}
	return l
}

// side is above 0 if c lies to the left of the way from a to b, below 0 if to
// the right, in integers.
func side(a, b, c complex128) int {
	ux, uy, vx, vy := int(real(b-a)), int(imag(b-a)), int(real(c-a)), int(imag(c-a))
	return ux*vy - uy*vx
}

// isAmong tells whether z lies in a triangle of three of the others, or on a
// line between two.
func isAmong(z complex128, others []complex128) bool {
	for i, a := range others {
		for j, b := range others[:i] {
			if liesOn(a, b, z) {
				return true
			}
			for _, c := range others[:j] {
				k, l, m := side(a, b, z), side(b, c, z), side(c, a, z)
				if min(k, l, m) > 0 || max(k, l, m) < 0 {
					return true
				}
			}
		}
	}
	return false
}

// hullByTriangles is P6 told in another way: the corners are those that do not
// lie among the others, and from the least one they are seen from right to left.
func hullByTriangles(points []complex128) []complex128 {
	var each, corners []complex128
	for _, z := range points {
		if !slices.Contains(each, z) {
			each = append(each, z)
		}
	}
	for i, z := range each {
		if !isAmong(z, slices.Delete(slices.Clone(each), i, i+1)) {
			corners = append(corners, z)
		}
	}
	least := slices.MinFunc(corners, func(a, b complex128) int {
		return cmp.Or(cmp.Compare(real(a), real(b)), cmp.Compare(imag(a), imag(b)))
	})
	slices.SortFunc(corners, func(a, b complex128) int {
		switch {
		case a == b:
			return 0
		case a == least:
			return -1
		case b == least:
			return 1
		}
		return -side(least, a, b)
	})
	return corners
}

func holdHull(t *testing.T, points []complex128) {
	t.Helper()
	want := hullByTriangles(points)
	if h, e := compass.Hull(points); !isSame(h, want) || e != api.OK {
		t.Fatalf("P6: Hull(%v) = %v, %d, want %v", points, h, e, want)
	}
}

// TestHullOnAGrid goes through all sets of places of a small grid, there and
// back, and through all lists of up to 4 of a smaller one.
func TestHullOnAGrid(t *testing.T) {
	at := func(i, wide int) complex128 { return complex(float64(i%wide), float64(i/wide)) - (1 + 1i) }
	for set := 1; set < 1<<12; set++ {
		var points []complex128
		for i := range 12 {
			if set>>i&1 == 1 {
				points = append(points, at(i, 4))
			}
		}
		holdHull(t, points)
		holdHull(t, backwards(points))
	}
	for i := range 9 * 9 * 9 * 9 {
		points := []complex128{at(i%9, 3), at(i/9%9, 3), at(i/81%9, 3), at(i/729, 3)}
		for n := 1; n <= 4; n++ {
			holdHull(t, points[:n])
		}
	}
}

func TestHullByTriangles(t *testing.T) {
	chance := numbers(7)
	for n := 1; n <= api.MaxHull; n++ {
		for _, most := range []int{1, 3, 9, 1000, far} {
			holdHull(t, chance.points(n, most))
		}
	}
}

// TestHullOfAnyOrder: neither the order of the points nor how often one is
// there, nor a point between two of them, changes the answer.
func TestHullOfAnyOrder(t *testing.T) {
	chance := numbers(8)
	for n := 1; n <= api.MaxHull; n++ {
		want := bowl(n)
		points := bowl(n)
		for len(points) < api.MaxHull {
			a, b := want[chance.next()%uint64(n)], want[chance.next()%uint64(n)]
			points = append(points, a, (a+b)/2)
		}
		points = points[:api.MaxHull]
		for range 20 {
			for i := range points {
				j := chance.next() % uint64(i+1)
				points[i], points[j] = points[j], points[i]
			}
			if h, e := compass.Hull(points); !isSame(h, want) || e != api.OK {
				t.Fatalf("P6: Hull(%v) = %v, %d, want %v", points, h, e, want)
			}
		}
	}
}

// TestHullOfAHull: it is its own hull, and has the same box.
func TestHullOfAHull(t *testing.T) {
	chance := numbers(9)
	for range 2000 {
		points := chance.points(3+int(chance.next()%30), 1+int(chance.next()%12))
		h, _ := compass.Hull(points)
		if again, e := compass.Hull(h); !isSame(again, h) || e != api.OK {
			t.Fatalf("P6: Hull(%v) = %v, %d", h, again, e)
		}
		if len(h) < api.MinShape {
			continue
		}
		want, _ := compass.Bounds(points)
		if b, e := compass.Bounds(h); b != want || e != api.OK {
			t.Fatalf("P6: Bounds(%v) = %v, %d, want %v", h, b, e, want)
		}
		for _, z := range points {
			if n, on, _ := compass.Winds(h, z); n != 1 && !on {
				t.Fatalf("P6: Hull(%v) = %v does not go around %v", points, h, z)
			}
		}
	}
}

func TestHullOfTooFewOrMany(t *testing.T) {
	refuse := func(points []complex128) {
		t.Helper()
		if h, e := compass.Hull(points); len(h) != 0 || e != api.ErrShape {
			t.Errorf("P6: Hull of %d points = %v, %d, want ErrShape", len(points), h, e)
		}
	}
	refuse(nil)
	refuse([]complex128{})
	refuse(spiral(4)[:0])
	refuse(make([]complex128, 1<<16))
	for n := 1; n < 140; n++ {
		if n > 64 {
			refuse(spiral(n))
			refuse(make([]complex128, n))
		} else if h, e := compass.Hull(spiral(n)); len(h) != min(n, 4) || e != api.OK {
			t.Errorf("P6: Hull of %d points = %v, %d", n, h, e)
		}
	}
	for _, z := range noPoints() {
		refuse(with(spiral(65), 64, z))
		refuse(slices.Repeat([]complex128{z}, 65))
		refuse([]complex128{z}[:0])
	}
}

func TestHullOfNoPoints(t *testing.T) {
	for _, z := range noPoints() {
		for _, n := range []int{1, 2, 3, 33, 64} {
			for i := range n {
				if h, e := compass.Hull(with(spiral(n), i, z)); len(h) != 0 || e != api.ErrPoint {
					t.Errorf("P6: Hull of %d points, %v at place %d = %v, %d, want ErrPoint", n, z, i, h, e)
				}
			}
		}
		if h, e := compass.Hull(slices.Repeat([]complex128{z}, 64)); len(h) != 0 || e != api.ErrPoint {
			t.Errorf("P6: Hull of 64 times %v = %v, %d, want ErrPoint", z, h, e)
		}
	}
}
