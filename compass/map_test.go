package compass_test

import (
	"math"
	"slices"
	"testing"

	"compass/api"
	"compass/compass"
)

// block: a square of that width whose least corner is z.
func block(z complex128, width float64) []complex128 {
	return []complex128{z, z + complex(width, 0), z + complex(width, width), z + complex(0, width)}
}

var noIDs = []int{-1, 1000, 1001, 1023, 1024, -999, -1000, math.MaxInt, math.MinInt, math.MaxInt32 + 1, 1 << 32, 1<<32 + 5, 1 << 62}

// put makes a map of these shapes.
func put(t *testing.T, shapes model) *compass.Map {
	t.Helper()
	m := compass.New()
	for id, shape := range shapes {
		if e := m.Put(id, shape); e != api.OK {
			t.Fatalf("P7: Put(%d, %v) = %d", id, shape, e)
		}
	}
	return m
}

func TestAMapHasNoShapesAtFirst(t *testing.T) {
	m := compass.New()
	model{}.holdGets(t, m)
	model{}.holdGets(t, m.View)
	model{}.holdAsked(t, m, wholePlane, 0, 100)
	for id := range 1000 {
		if e := m.Drop(id); e != api.ErrNone {
			t.Errorf("P7: Drop(%d) of a new map = %d", id, e)
		}
		if e := m.Turn(id, api.Turn{Scale: 1}); e != api.ErrNone {
			t.Errorf("P7: Turn(%d) of a new map = %d", id, e)
		}
	}
}

// TestTheDocumentsMap: the last of the document's examples.
func TestTheDocumentsMap(t *testing.T) {
	m := compass.New()
	if e, n := m.Put(7, []complex128{0, 4, 4i}), m.Commit(); e != api.OK || n != 1 {
		t.Fatalf("P8: Put, Commit = %d, %d", e, n)
	}
	if e, f := m.Turn(7, api.Turn{Scale: 1, Shift: 10}), m.Put(3, []complex128{0, 1, 1i}); e != api.OK || f != api.OK {
		t.Fatalf("P7: Turn, Put = %d, %d", e, f)
	}
	if l, e := m.Window(api.Box{0, 5}); !slices.Equal(l, []int{3}) || e != api.OK {
		t.Errorf("P9: Window = %v, %d", l, e)
	}
	if l, e := stood(t, m, 1).Window(api.Box{0, 5}); !slices.Equal(l, []int{7}) || e != api.OK {
		t.Errorf("P9: Window of version 1 = %v, %d", l, e)
	}
	if l, e := m.Near(6, 2); !slices.Equal(l, []int{7, 3}) || e != api.OK {
		t.Errorf("P9: Near = %v, %d", l, e)
	}
	if m.Count() != 2 || stood(t, m, 0).Count() != 0 {
		t.Errorf("P9: Count = %d, of version 0 %d", m.Count(), stood(t, m, 0).Count())
	}
	if l, e := m.Hits(12 + 1i); !slices.Equal(l, []int{7}) || e != api.OK {
		t.Errorf("P9: Hits = %v, %d", l, e)
	}
}

// TestEachIDHasItsOwnShape puts a shape at each id there is, and drops them in
// another order.
func TestEachIDHasItsOwnShape(t *testing.T) {
	m, o := compass.New(), model{}
	at := func(i int) int { return i * 7 % 1000 }
	for i := range 1000 {
		id := at(i)
		shape := block(complex(float64(id), float64(-2*id)), float64(id%5))
		if e := m.Put(id, shape); e != api.OK || o.put(id, shape) != api.OK || m.Count() != i+1 {
			t.Fatalf("P7: Put(%d) = %d; Count = %d, want %d", id, e, m.Count(), i+1)
		}
	}
	o.holdGets(t, m)
	o.holdAsked(t, m, api.Box{100 - 500i, 300 - 2i}, 40-80i, 100)
	for i := range 1000 {
		id := at(at(i))
		if e := m.Drop(id); e != api.OK || o.drop(id) != api.OK || m.Count() != 999-i {
			t.Fatalf("P7: Drop(%d) = %d; Count = %d, want %d", id, e, m.Count(), 999-i)
		}
		if i%100 == 50 {
			o.holdGets(t, m)
		}
	}
}

func TestPutOfWrongShapes(t *testing.T) {
	m := compass.New()
	for _, z := range noPoints() {
		for _, n := range []int{api.MinShape, 4, api.MaxShape} {
			for _, i := range []int{0, 1, n / 2, n - 1} {
				if e := m.Put(5, with(spiral(n), i, z)); e != api.ErrPoint {
					t.Errorf("P7: Put of %d points, %v at place %d = %d, want ErrPoint", n, z, i, e)
				}
			}
		}
	}
	for n := range 80 {
		want := api.OK
		if n < 3 || n > 32 {
			want = api.ErrShape
		}
		if e := m.Put(n, spiral(n)); e != want {
			t.Errorf("P7: Put of %d points = %d, want %d", n, e, want)
		}
	}
	if e := m.Put(100, nil); e != api.ErrShape || m.Count() != 30 {
		t.Errorf("P7: Put of nothing = %d; Count = %d", e, m.Count())
	}
}

func TestPutOfShapes(t *testing.T) {
	o := model{
		0: {0, 0, 0}, 1: spiral(3), 2: spiral(32), 3: {complex(far, far), complex(-far, far), complex(far, -far), complex(-far, -far)},
		4: {complex(math.Copysign(0, -1), 0), 1, 1i}, 31: square, 32: backwards(square), 500: slices.Repeat([]complex128{5 - 2i}, 32), 999: square,
	}
	o.holdGets(t, put(t, o))
}

func TestPutWhereAShapeIs(t *testing.T) {
	for _, id := range []int{0, 1, 500, 999} {
		m := put(t, model{id: square})
		for _, shape := range [][]complex128{square, backwards(square), block(100, 2)} {
			if e := m.Put(id, shape); e != api.ErrThere {
				t.Errorf("P7: Put at %d again = %d", id, e)
			}
		}
		model{id: square}.holdGets(t, m)
		if e := m.Drop(id); e != api.OK {
			t.Errorf("P7: Drop(%d) = %d", id, e)
		}
		if e := m.Drop(id); e != api.ErrNone {
			t.Errorf("P7: Drop(%d) again = %d", id, e)
		}
		if e := m.Turn(id, api.Turn{Scale: 1}); e != api.ErrNone {
			t.Errorf("P7: Turn(%d) of what was dropped = %d", id, e)
		}
		model{}.holdGets(t, m)
		if e := m.Put(id, block(100, 2)); e != api.OK {
			t.Errorf("P7: Put at %d, behind Drop = %d", id, e)
		}
		model{id: block(100, 2)}.holdGets(t, m)
	}
}

// TestWhatTurnMakesIsFound: by where it lies then, and no more by where it lay.
func TestWhatTurnMakesIsFound(t *testing.T) {
	for _, turn := range []api.Turn{
		{Scale: 1}, {Scale: 1, Shift: 10}, {Scale: 1i, Shift: -20i}, {Scale: -64 + 64i}, {Scale: 64, Shift: 1000}, {Shift: 7 - 7i},
		{Shift: complex(far, far)}, {Shift: complex(-far, -far)}, {Scale: 2, Shift: far - 8}, {Scale: -1, Shift: complex(4-far, 0)},
	} {
		m, o := put(t, model{0: square, 5: square, 999: square}), model{0: square, 5: square, 999: square}
		for range 2 {
			if got, want := m.Turn(5, turn), o.turn(5, turn); got != want {
				t.Errorf("P7: Turn(%v) = %d, want %d", turn, got, want)
			}
			o.holdGets(t, m)
			for _, p := range append(slices.Clone(o[5]), 1+1i, 12+1i, -20i, complex(far, far)) {
				o.holdAsked(t, m, api.Box{p, p}, p, 3)
			}
		}
	}
}

func TestTurnOfWrongTurns(t *testing.T) {
	m := put(t, model{5: {0, 4, 4i}})
	refuse := func(turn api.Turn, want api.Errno) {
		t.Helper()
		if e := m.Turn(5, turn); e != want {
			t.Errorf("P7: Turn(5, %v) = %d, want %d", turn, e, want)
		}
	}
	for _, z := range noScales() {
		refuse(api.Turn{Scale: z}, api.ErrTurn)
		refuse(api.Turn{Scale: z, Shift: far}, api.ErrTurn)
	}
	for _, z := range noPoints() {
		refuse(api.Turn{Shift: z}, api.ErrTurn)
		refuse(api.Turn{Scale: 1, Shift: z}, api.ErrTurn)
	}
	for _, z := range []complex128{far, far - 3, complex(0, far), complex(0, far-3)} {
		refuse(api.Turn{Scale: 1, Shift: z}, api.ErrFar)
		refuse(api.Turn{Scale: -1, Shift: -z}, api.ErrFar)
	}
	refuse(api.Turn{Scale: 64, Shift: far - 255}, api.ErrFar)
	model{5: {0, 4, 4i}}.holdGets(t, m)
	refuse(api.Turn{Scale: 64, Shift: far - 256}, api.OK)
	model{5: {far - 256, far, far - 256 + 256i}}.holdGets(t, m)
}

func TestNoIDs(t *testing.T) {
	m := put(t, model{0: square, 5: square, 999: square})
	for _, id := range noIDs {
		if e := m.Put(id, block(50, 1)); e != api.ErrID {
			t.Errorf("P7: Put(%d) = %d", id, e)
		}
		if e := m.Drop(id); e != api.ErrID {
			t.Errorf("P7: Drop(%d) = %d", id, e)
		}
		if e := m.Turn(id, api.Turn{Scale: 1, Shift: 1}); e != api.ErrID {
			t.Errorf("P7: Turn(%d) = %d", id, e)
		}
		if l, e := m.Get(id); len(l) != 0 || e != api.ErrID {
			t.Errorf("P9: Get(%d) = %v, %d", id, l, e)
		}
	}
	model{0: square, 5: square, 999: square}.holdGets(t, m)
}

// someID: often one of a few, at the ends of what there may be, seldom none.
func (n *numbers) someID() int {
	few := []int{0, 1, 2, 31, 32, 33, 500, 998, 999, -1, 1000}
	if i := int(n.next() % 16); i < len(few) {
		return few[i]
	}
	return int(n.next() % 40)
}

// someShape: seldom none.
func (n *numbers) someShape(most int) []complex128 {
	shape := n.points(3+int(n.next()%6), most)
	switch n.next() % 12 {
	case 0:
		return n.points(int(n.next()%40), most)
	case 1:
		shape[n.next()%3] = 0.5
	}
	return shape
}

// someTurn: seldom none.
func (n *numbers) someTurn(most int) api.Turn {
	turn := api.Turn{Scale: n.point(1), Shift: n.point(most)}
	switch n.next() % 12 {
	case 0:
		turn.Scale = n.point(99)
	case 1:
		turn.Shift = complex(far+1, 0)
	}
	return turn
}

// change does one thing to a map and to its model, as it comes, and tells what
// the answer was.
func (n *numbers) change(t *testing.T, m *compass.Map, o model, most int) api.Errno {
	t.Helper()
	id, got, want := n.someID(), api.OK, api.OK
	switch n.next() % 5 {
	case 0, 1:
		shape := n.someShape(most)
		got, want = m.Put(id, shape), o.put(id, shape)
	case 2:
		got, want = m.Drop(id), o.drop(id)
	default:
		turn := n.someTurn(most)
		got, want = m.Turn(id, turn), o.turn(id, turn)
	}
	if got != want {
		t.Fatalf("P7: id %d: the answer is %d, want %d", id, got, want)
	}
	return got
}

// someBox: a small one, whose least corner is p.
func (n *numbers) someBox(p complex128) api.Box {
	size := complex(float64(n.next()%9), float64(n.next()%9))
	return api.Box{p, complex(min(far, real(p+size)), min(far, imag(p+size)))}
}

// TestMapsAgainstModels changes two maps in turn, as it comes, and holds each
// against a model of its own.
func TestMapsAgainstModels(t *testing.T) {
	for _, most := range []int{3, 30, 3000, far} {
		chance := numbers(7 + most)
		ms, os := []*compass.Map{compass.New(), compass.New()}, []model{{}, {}}
		answered := map[api.Errno]int{}
		for step := range 4000 {
			m, o := ms[step%2], os[step%2]
			answered[chance.change(t, m, o, most)]++
			p := chance.point(most)
			b := chance.someBox(p)
			o.holdAsked(t, m, b, p, int(chance.next()%101))
			os[1-step%2].holdAsked(t, ms[1-step%2].View, b, p, 5)
			if step%97 == 0 {
				o.holdGets(t, m)
				o.holdGets(t, m.View)
			}
		}
		for _, e := range []api.Errno{api.OK, api.ErrShape, api.ErrPoint, api.ErrTurn, api.ErrID, api.ErrThere, api.ErrNone} {
			if answered[e] < 20 {
				t.Errorf("the steps answered %d only %d times: %v", e, answered[e], answered)
			}
		}
	}
}
