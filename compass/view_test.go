package compass_test

import (
	"math"
	"slices"
	"testing"

	"compass/api"
)

func TestWindowOfBoxes(t *testing.T) {
	stand := standings(t, model{
		7:   block(0, 4),
		3:   {10, 14, 10 + 4i},
		500: {-20, -20, -20},
		0:   {30 - 4i, 30 + 4i, 30},
		999: {complex(far, far), complex(far-2, far), complex(far, far-2)},
		998: {complex(-far, -far), complex(2-far, -far), complex(-far, 2-far)},
	})
	for _, c := range []struct {
		name string
		b    api.Box
		want []int
	}{
		{"the whole plane", wholePlane, []int{0, 3, 7, 500, 998, 999}},
		{"inside one", api.Box{1 + 1i, 2 + 2i}, []int{7}},
		{"around one", api.Box{-1 - 1i, 5 + 5i}, []int{7}},
		{"the same box", api.Box{0, 4 + 4i}, []int{7}},
		{"one point inside", api.Box{2 + 3i, 2 + 3i}, []int{7}},
		{"one point, the least corner", api.Box{0, 0}, []int{7}},
		{"one point, the greatest corner", api.Box{4 + 4i, 4 + 4i}, []int{7}},
		{"one point, the left high corner", api.Box{4i, 4i}, []int{7}},
		{"one point, the right low corner", api.Box{4, 4}, []int{7}},
		{"one point next to a corner", api.Box{5 + 4i, 5 + 4i}, nil},
		{"touches the left side", api.Box{-5 + 1i, 2i}, []int{7}},
		{"touches the right side", api.Box{4 + 1i, 6 + 2i}, []int{7}},
		{"touches the low side", api.Box{1 - 5i, 2}, []int{7}},
		{"touches the high side", api.Box{1 + 4i, 2 + 9i}, []int{7}},
		{"not quite the left side", api.Box{-5 + 1i, -1 + 2i}, nil},
		{"not quite the right side", api.Box{5 + 1i, 6 + 2i}, nil},
		{"not quite the low side", api.Box{1 - 5i, 2 - 1i}, nil},
		{"not quite the high side", api.Box{1 + 5i, 2 + 9i}, nil},
		{"touches the least corner", api.Box{-3 - 3i, 0}, []int{7}},
		{"touches the greatest corner", api.Box{4 + 4i, 9 + 9i}, []int{7}},
		{"touches the left high corner", api.Box{-3 + 4i, 9i}, []int{7}},
		{"touches the right low corner", api.Box{4 - 3i, 8}, []int{7}},
		{"touches one at a corner, one at a side", api.Box{4 + 4i, 10 + 4i}, []int{3, 7}},
		{"goes through, upright", api.Box{2 - 9i, 2 + 9i}, []int{7}},
		{"goes through, lying", api.Box{-9 + 2i, 9 + 2i}, []int{7}},
		{"between two", api.Box{5, 9 + 9i}, nil},
		{"as high, but beside", api.Box{5, 9 + 4i}, nil},
		{"as broad, but above", api.Box{5i, 4 + 9i}, nil},
		{"in a box, not in its shape", api.Box{13 + 3i, 14 + 4i}, []int{3}},
		{"a shape of one place", api.Box{-20, -20}, []int{500}},
		{"next to a shape of one place", api.Box{-19 - 5i, -18 + 5i}, nil},
		{"a shape that is a line", api.Box{30 + 1i, 30 + 1i}, []int{0}},
		{"across a shape that is a line", api.Box{29 + 1i, 31 + 1i}, []int{0}},
		{"the greatest point", api.Box{complex(far, far), complex(far, far)}, []int{999}},
		{"the least point", api.Box{complex(-far, -far), complex(-far, -far)}, []int{998}},
		{"the plane's right side", api.Box{complex(far, -far), complex(far, far)}, []int{999}},
		{"the plane's low side", api.Box{complex(-far, -far), complex(far, -far)}, []int{998}},
		{"the plane's left high corner", api.Box{complex(-far, far), complex(-far, far)}, nil},
		{"the left half", api.Box{complex(-far, -far), complex(-1, far)}, []int{500, 998}},
		{"-0", api.Box{complex(math.Copysign(0, -1), math.Copysign(0, -1)), 0}, []int{7}},
		{"0 and -0", api.Box{0, complex(math.Copysign(0, -1), math.Copysign(0, -1))}, []int{7}},
	} {
		for _, v := range stand {
			if l, e := v.Window(c.b); !slices.Equal(l, c.want) || e != api.OK {
				t.Errorf("P9: %s: Window(%v) of %T = %v, %d, want %v", c.name, c.b, v, l, e, c.want)
			}
		}
	}
}

// smallBoxes: all boxes of a grid of 4 by 4 points.
func smallBoxes() []api.Box {
	var list []api.Box
	for i := range 256 {
		a, b := complex(float64(i%4), float64(i/4%4)), complex(float64(i/16%4), float64(i/64))
		if real(a) <= real(b) && imag(a) <= imag(b) {
			list = append(list, api.Box{a, b})
		}
	}
	return list
}

// putSmallBoxes lays down shapes that have these boxes.
func putSmallBoxes(t *testing.T) ([]asked, []api.Box) {
	t.Helper()
	boxes, o := smallBoxes(), model{}
	for id, b := range boxes {
		o[id] = []complex128{b[0], b[1], b[0]}
	}
	return standings(t, o), boxes
}

// pointsOf: all points of a small box.
func pointsOf(b api.Box) []complex128 {
	var list []complex128
	for x := real(b[0]); x <= real(b[1]); x++ {
		for y := imag(b[0]); y <= imag(b[1]); y++ {
			list = append(list, complex(x, y))
		}
	}
	return list
}

// TestWindowsByPoints holds each box against each other one by the document's
// words: whether a point is in both.
func TestWindowsByPoints(t *testing.T) {
	stand, boxes := putSmallBoxes(t)
	for _, b := range boxes {
		var want []int
		for id, other := range boxes {
			if slices.ContainsFunc(pointsOf(b), func(z complex128) bool { return slices.Contains(pointsOf(other), z) }) {
				want = append(want, id)
			}
		}
		for _, v := range stand {
			if l, e := v.Window(b); !slices.Equal(l, want) || e != api.OK {
				t.Errorf("P9: Window(%v) of %T = %v, %d, want %v", b, v, l, e, want)
			}
		}
	}
}

func TestWindowOfNoBoxes(t *testing.T) {
	stand := standings(t, model{5: square})
	refuse := func(b api.Box) {
		t.Helper()
		for _, v := range stand {
			if l, e := v.Window(b); len(l) != 0 || e != api.ErrBox {
				t.Errorf("P9: Window(%v) of %T = %v, %d, want ErrBox", b, v, l, e)
			}
		}
	}
	for _, b := range []api.Box{
		{1, 0}, {1i, 0}, {1i, 5}, {1, 5i}, {1 + 1i, 0}, {5 + 1i, 4 + 9i}, {1 + 5i, 9 + 4i}, {wholePlane[1], wholePlane[0]},
		{complex(far, far), complex(far-1, far)}, {complex(far, far), complex(far, far-1)}, {complex(-far, 1-far), complex(far, -far)},
	} {
		refuse(b)
	}
	for _, z := range noPoints() {
		refuse(api.Box{z, complex(far, far)})
		refuse(api.Box{complex(-far, -far), z})
		refuse(api.Box{z, z})
		refuse(api.Box{z, -far})
	}
}

func TestHitsOfPlaces(t *testing.T) {
	stand := standings(t, model{
		7:   block(0, 4),
		2:   backwards(block(0, 4)),
		3:   {10, 14, 10 + 4i},
		9:   slices.Repeat(block(20, 4), 2),
		0:   {30, 34, 30 + 4i, 34 + 4i}, // crosses itself
		500: {-20, -20, -20},
		501: append(block(40, 4), 40, 40+4i, 44+4i, 44), // there and back again
		999: {complex(far, far), complex(far-2, far), complex(far, far-2)},
		998: {complex(-far, -far), complex(2-far, -far), complex(-far, 2-far)},
	})
	for _, c := range []struct {
		name string
		p    complex128
		want []int
	}{
		{"around it, both ways", 1 + 1i, []int{2, 7}},
		{"on a corner", 4 + 4i, []int{2, 7}},
		{"on the first corner", 0, []int{2, 7}},
		{"on an edge", 4 + 1i, []int{2, 7}},
		{"on the last edge", 2i, []int{2, 7}},
		{"next to a corner", 5 + 4i, nil},
		{"next to an edge", -1 + 2i, nil},
		{"in a triangle", 11 + 1i, []int{3}},
		{"on the slanting edge", 12 + 2i, []int{3}},
		{"in the box, not in the triangle", 13 + 3i, nil},
		{"a corner of the box, not of the triangle", 14 + 4i, nil},
		{"around it twice", 21 + 1i, []int{9}},
		{"on an edge that goes there twice", 20 + 1i, []int{9}},
		{"the low wing of a bow", 32 + 1i, []int{0}},
		{"the high wing of a bow", 32 + 3i, []int{0}},
		{"where edges cross", 32 + 2i, []int{0}},
		{"beside a bow's waist", 31 + 2i, nil},
		{"a shape of one place", -20, []int{500}},
		{"next to a shape of one place", -19, nil},
		{"around it there and back", 41 + 1i, nil},
		{"on an edge of there and back", 40 + 1i, []int{501}},
		{"the greatest point", complex(far, far), []int{999}},
		{"on an edge far off", complex(far-1, far-1), []int{999}},
		{"next to an edge far off", complex(far-1, far-2), nil},
		{"the least point", complex(-far, -far), []int{998}},
		{"the plane's other corner", complex(far, -far), nil},
		{"-0", complex(math.Copysign(0, -1), math.Copysign(0, -1)), []int{2, 7}},
	} {
		for _, v := range stand {
			if l, e := v.Hits(c.p); !slices.Equal(l, c.want) || e != api.OK {
				t.Errorf("P9: %s: Hits(%v) of %T = %v, %d, want %v", c.name, c.p, v, l, e, c.want)
			}
		}
	}
}

// TestWhoeverHitsIsInTheBox: of shapes in the plane's midst and of great ones.
func TestWhoeverHitsIsInTheBox(t *testing.T) {
	chance := numbers(10)
	for _, most := range []int{4, 40, far} {
		o := model{}
		for id := range 60 {
			o[id] = chance.points(3+id%6, most)
		}
		places := chance.points(300, most)
		for _, v := range standings(t, o) {
			found := 0
			for _, p := range places {
				hit, _ := v.Hits(p)
				boxed, _ := v.Window(api.Box{p, p})
				for _, id := range hit {
					if !slices.Contains(boxed, id) {
						t.Errorf("P10: %v hits %v of %T, and is not in its box", p, o[id], v)
					}
					found++
				}
			}
			if found == 0 {
				t.Error("nothing was hit")
			}
		}
	}
}

func TestNearPlaces(t *testing.T) {
	stand := standings(t, model{
		7:   block(0, 4),
		3:   {10, 14, 10 + 4i},
		9:   block(20, 4),
		1:   {-5, -5, -5},
		999: block(0, 4),
		0:   block(-100-100i, 2),
	})
	for _, c := range []struct {
		name string
		p    complex128
		n    int
		want []int
	}{
		{"none", 0, 0, nil},
		{"one", 0, 1, []int{7}},
		{"one of two equal ones", 2 + 2i, 1, []int{7}},
		{"in two boxes", 2 + 2i, 2, []int{7, 999}},
		{"as many as there are", 0, 6, []int{7, 999, 1, 3, 9, 0}},
		{"one less than there are", 0, 5, []int{7, 999, 1, 3, 9}},
		{"more than there are", 0, 7, []int{7, 999, 1, 3, 9, 0}},
		{"100", 0, 100, []int{7, 999, 1, 3, 9, 0}},
		{"between two, equally near", 7, 3, []int{3, 7, 999}},
		{"nearer to the right one", 8, 3, []int{3, 7, 999}},
		{"nearer to the left one", 6, 3, []int{7, 999, 3}},
		{"equally near by a box's corner", 17 + 2i, 2, []int{3, 9}},
		{"in a box, not in its shape", 13 + 3i, 1, []int{3}},
		{"3 and 4 away is nearer than 6", 27 + 8i, 1, []int{9}},
		{"across a corner", -3 - 4i, 2, []int{1, 7}},
		{"from above, three equally near", 12 + 9i, 4, []int{3, 7, 9, 999}},
		{"from below, not all that are equally near", 12 - 9i, 3, []int{3, 7, 9}},
		{"from the greatest point", complex(far, far), 6, []int{9, 3, 7, 999, 1, 0}},
		{"from the least point", complex(-far, -far), 6, []int{0, 1, 7, 999, 3, 9}},
	} {
		for _, v := range stand {
			if l, e := v.Near(c.p, c.n); !slices.Equal(l, c.want) || e != api.OK {
				t.Errorf("P9: %s: Near(%v, %d) of %T = %v, %d, want %v", c.name, c.p, c.n, v, l, e, c.want)
			}
		}
	}
}

// TestNearByPoints holds how far boxes are against the distances to all their
// points, from places in, beside and off the boxes.
func TestNearByPoints(t *testing.T) {
	stand, boxes := putSmallBoxes(t)
	for _, p := range pointsOf(api.Box{-3 - 3i, 6 + 6i}) {
		off := func(id int) float64 {
			least := math.Inf(1)
			for _, z := range pointsOf(boxes[id]) {
				least = min(least, real(z-p)*real(z-p)+imag(z-p)*imag(z-p))
			}
			return least
		}
		for _, v := range stand {
			l, e := v.Near(p, 100)
			if len(l) != len(boxes) || e != api.OK {
				t.Fatalf("P9: Near(%v, 100) of %T = %v, %d", p, v, l, e)
			}
			for i := range l[1:] {
				if a, b := off(l[i]), off(l[i+1]); a > b || a == b && l[i] >= l[i+1] {
					t.Fatalf("P9: Near(%v) of %T: %d, %v away, stands ahead of %d, %v away", p, v, l[i], a, l[i+1], b)
				}
			}
		}
	}
}

// TestNearAtTheEndsOfThePlane: where squares are the greatest, what is a little
// farther is farther.
func TestNearAtTheEndsOfThePlane(t *testing.T) {
	corner := complex(far, far)
	for _, v := range standings(t, model{
		1: slices.Repeat([]complex128{corner}, 3), 2: slices.Repeat([]complex128{corner - 1}, 3), 3: slices.Repeat([]complex128{corner - 1i}, 3),
		4: slices.Repeat([]complex128{corner - 1 - 1i}, 3), 5: {corner - 1 - 1i, corner, corner},
	}) {
		if l, e := v.Near(-corner, 100); !slices.Equal(l, []int{4, 5, 2, 3, 1}) || e != api.OK {
			t.Errorf("P9: Near of %T from the least point = %v, %d", v, l, e)
		}
		if l, e := v.Near(corner, 100); !slices.Equal(l, []int{1, 5, 2, 3, 4}) || e != api.OK {
			t.Errorf("P9: Near of %T from the greatest point = %v, %d", v, l, e)
		}
	}
	for _, v := range standings(t, model{8: slices.Repeat([]complex128{complex(far, -far)}, 3), 0: slices.Repeat([]complex128{complex(far, 1-far)}, 3)}) {
		if l, e := v.Near(-corner, 100); !slices.Equal(l, []int{8, 0}) || e != api.OK {
			t.Errorf("P9: Near of %T from the least point, squares that differ by 1 = %v, %d", v, l, e)
		}
	}
}

func TestNearCounts(t *testing.T) {
	for _, there := range []int{0, 1, 99, 100, 101, 1000} {
		o := model{}
		for id := range there {
			o[id] = block(complex(float64(there-id), 0), 1)
		}
		for _, v := range standings(t, o) {
			for n := range 101 {
				l, e := v.Near(-5, n)
				if len(l) != min(n, there) || e != api.OK {
					t.Fatalf("P9: Near(%d) of %d = %v, %d", n, there, l, e)
				}
				for i, id := range l {
					if id != there-1-i {
						t.Fatalf("P9: Near(%d) of %d = %v", n, there, l)
					}
				}
			}
		}
	}
}

func TestWrongQuestions(t *testing.T) {
	for _, v := range append(standings(t, model{}), standings(t, model{0: square, 5: square})...) {
		for _, z := range noPoints() {
			if l, e := v.Hits(z); len(l) != 0 || e != api.ErrPoint {
				t.Errorf("P9: Hits(%v) of %T = %v, %d", z, v, l, e)
			}
			for _, n := range []int{0, 1, 100, 101, -1} {
				if l, e := v.Near(z, n); len(l) != 0 || e != api.ErrPoint {
					t.Errorf("P9: Near(%v, %d) of %T = %v, %d", z, n, v, l, e)
				}
			}
		}
		for _, n := range []int{-1, 101, 102, -100, math.MaxInt, math.MinInt, 1 << 32, 1<<32 + 1} {
			for _, p := range []complex128{0, complex(far, far)} {
				if l, e := v.Near(p, n); len(l) != 0 || e != api.ErrCount {
					t.Errorf("P9: Near(%v, %d) of %T = %v, %d", p, n, v, l, e)
				}
			}
		}
		for _, id := range noIDs {
			if l, e := v.Get(id); len(l) != 0 || e != api.ErrID {
				t.Errorf("P9: Get(%d) of %T = %v, %d", id, v, l, e)
			}
		}
	}
}
