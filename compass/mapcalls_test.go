package compass_test

import (
	"math"
	"slices"
	"testing"

	"compass/api"
	"compass/compass"
)

// someShapes: near the origin, at the ends of the plane, one twice.
func someShapes() model {
	return model{
		0: square, 5: {-3 - 3i, 3, 3i}, 31: block(5, 4), 32: block(5, 4), 500: slices.Repeat([]complex128{20 + 20i}, 32),
		999: {complex(far, far), complex(-far, far), complex(far, -far)},
	}
}

// wrongCall: a call that must be refused, and by which error; it tells how much
// came out beside that.
type wrongCall struct {
	name string
	call func() (int, api.Errno)
	want api.Errno
}

// wrongChanges: all errors that a call knows apply at once, and then one less
// each time.
func wrongChanges(m *compass.Map) []wrongCall {
	nan := complex(math.NaN(), math.NaN())
	noTurn, tooFar := api.Turn{Scale: nan, Shift: nan}, api.Turn{Scale: 64, Shift: far}
	two, many, noPoints := []complex128{nan, far}, slices.Repeat([]complex128{nan}, 33), []complex128{far, nan, far}
	return []wrongCall{
		{"Put of two, no points, at no id", func() (int, api.Errno) { return 0, m.Put(-1, two) }, api.ErrID},
		{"Put of no points at no id", func() (int, api.Errno) { return 0, m.Put(1000, noPoints) }, api.ErrID},
		{"Put of a shape at no id", func() (int, api.Errno) { return 0, m.Put(1000, square) }, api.ErrID},
		{"Put of two, no points, where a shape is", func() (int, api.Errno) { return 0, m.Put(0, two) }, api.ErrShape},
		{"Put of many, no points, where a shape is", func() (int, api.Errno) { return 0, m.Put(999, many) }, api.ErrShape},
		{"Put of two, no points", func() (int, api.Errno) { return 0, m.Put(1, two) }, api.ErrShape},
		{"Put of no points where a shape is", func() (int, api.Errno) { return 0, m.Put(0, noPoints) }, api.ErrPoint},
		{"Put of no points", func() (int, api.Errno) { return 0, m.Put(1, noPoints) }, api.ErrPoint},
		{"Put where a shape is", func() (int, api.Errno) { return 0, m.Put(5, block(1, 1)) }, api.ErrThere},
		{"Drop of no id", func() (int, api.Errno) { return 0, m.Drop(1000) }, api.ErrID},
		{"Drop of none", func() (int, api.Errno) { return 0, m.Drop(998) }, api.ErrNone},
		{"Turn by none at no id", func() (int, api.Errno) { return 0, m.Turn(-1, noTurn) }, api.ErrID},
		{"Turn too far at no id", func() (int, api.Errno) { return 0, m.Turn(1000, tooFar) }, api.ErrID},
		{"Turn by none, of none", func() (int, api.Errno) { return 0, m.Turn(1, noTurn) }, api.ErrNone},
		{"Turn too far, of none", func() (int, api.Errno) { return 0, m.Turn(998, tooFar) }, api.ErrNone},
		{"Turn by none", func() (int, api.Errno) { return 0, m.Turn(0, noTurn) }, api.ErrTurn},
		{"Turn by none, too far", func() (int, api.Errno) { return 0, m.Turn(0, api.Turn{Scale: 65, Shift: far}) }, api.ErrTurn},
		{"Turn too far", func() (int, api.Errno) { return 0, m.Turn(0, tooFar) }, api.ErrFar},
		{"Turn too far by the last corner", func() (int, api.Errno) { return 0, m.Turn(0, api.Turn{Scale: 1, Shift: complex(0, far-2)}) }, api.ErrFar},
	}
}

// wrongQuestions: as wrongChanges, of what a map and a view can be asked.
func wrongQuestions(v asked) []wrongCall {
	nan := complex(math.NaN(), math.NaN())
	return []wrongCall{
		{"Get of no id", func() (int, api.Errno) { l, e := v.Get(1000); return len(l), e }, api.ErrID},
		{"Get of none", func() (int, api.Errno) { l, e := v.Get(1); return len(l), e }, api.ErrNone},
		{"Window of no points, out of order", func() (int, api.Errno) { l, e := v.Window(api.Box{far + 1, nan}); return len(l), e }, api.ErrBox},
		{"Window out of order", func() (int, api.Errno) { l, e := v.Window(api.Box{far, 0}); return len(l), e }, api.ErrBox},
		{"Hits of no point", func() (int, api.Errno) { l, e := v.Hits(nan); return len(l), e }, api.ErrPoint},
		{"Near no point, too many", func() (int, api.Errno) { l, e := v.Near(nan, 101); return len(l), e }, api.ErrPoint},
		{"Near no point, too few", func() (int, api.Errno) { l, e := v.Near(nan, -1); return len(l), e }, api.ErrPoint},
		{"Near, too many", func() (int, api.Errno) { l, e := v.Near(0, 101); return len(l), e }, api.ErrCount},
		{"Near, too few", func() (int, api.Errno) { l, e := v.Near(0, -1); return len(l), e }, api.ErrCount},
	}
}

// TestFirstErrorOfAMapIsAnswered: behind each error the map and all its versions
// answer all as before.
func TestFirstErrorOfAMapIsAnswered(t *testing.T) {
	m, last := put(t, someShapes()), 2
	early := stood(t, m, m.Commit())
	m.Turn(5, api.Turn{Scale: 1i})
	m.Commit()
	m.Turn(5, api.Turn{Scale: -1})
	before := tellAll(t, m, last)
	for _, c := range slices.Concat(wrongChanges(m), wrongQuestions(m), wrongQuestions(m.View), wrongQuestions(early), wrongQuestions(stood(t, m, last))) {
		if n, e := c.call(); n != 0 || e != c.want {
			t.Errorf("P1: %s: %d came out, and the error %d, want %d", c.name, n, e, c.want)
		}
		if after := tellAll(t, m, last); after != before {
			t.Fatalf("P1: %s: the map and its versions answered %s, and then %s", c.name, before, after)
		}
	}
}

// TestQuestionsChangeNothing: asked in any order, a map and its versions tell
// the same.
func TestQuestionsChangeNothing(t *testing.T) {
	m, os := grown(t)
	early, last := stood(t, m, 1), len(os)-1
	before := tellAll(t, m, last)
	for _, z := range anyNumbers() {
		for _, i := range append(anyInts, 5) {
			askAll(m.View, i, z)
			askAll(early, i, z)
			m.At(i)
		}
	}
	if after := tellAll(t, m, last); after != before {
		t.Errorf("P2: the map and its versions answered %s, and then %s", before, after)
	}
}

// TestPutKeepsNothingHandedIn writes all over a list that was put, its spare
// room too, ahead of and behind a version; and no call of the map writes into
// it.
func TestPutKeepsNothingHandedIn(t *testing.T) {
	for n := range 40 {
		m := put(t, model{7: square})
		list, whole := roomy(n)
		given, want := slices.Clone(whole), slices.Clone(list)
		m.Put(7, list)
		e := m.Put(5, list)
		m.Commit()
		m.Put(6, list)
		before := tellAll(t, m, 1)
		if !isSame(whole, given) {
			t.Fatalf("P2: Put has made of %v %v", given, whole)
		}
		fill(whole, 77)
		if after := tellAll(t, m, 1); after != before {
			t.Fatalf("P2: the map and its versions answered %s, and then %s", before, after)
		}
		if l, _ := stood(t, m, 1).Get(5); e == api.OK && !isSame(l, want) {
			t.Fatalf("P2: Get = %v, want %v", l, want)
		}
		m.Turn(5, api.Turn{Scale: 1i, Shift: 3})
		m.Drop(5)
		if slices.ContainsFunc(whole, func(z complex128) bool { return z != 77 }) {
			t.Fatalf("P2: Turn or Drop has written into what was put: %v", whole)
		}
	}
}

// holdOwnMemory writes all over a list that came out of a map with two versions,
// or of a view of it, its spare room too.
func holdOwnMemory[T comparable](t *testing.T, name string, m *compass.Map, z T, call func() ([]T, api.Errno)) {
	t.Helper()
	before := tellAll(t, m, 2)
	first, e := call()
	second, f := call()
	if len(first) == 0 || e != api.OK || f != api.OK {
		t.Fatalf("P9: %s gives %v, %d", name, first, e)
	}
	want := slices.Clone(second)
	fill(first, z)
	if !slices.Equal(second, want) {
		t.Errorf("P2: what %s gives shares memory with what it gave: %v", name, second)
	}
	if after := tellAll(t, m, 2); after != before {
		t.Errorf("P2: behind %s the map and its versions answered %s, and then %s", name, before, after)
	}
	m.Turn(0, api.Turn{Scale: -1})
	m.Drop(5)
	m.Put(5, block(-2, 7))
	if !slices.Equal(second, want) {
		t.Errorf("P2: what %s gave has become %v, it was %v", name, second, want)
	}
}

func TestMapsAndViewsGiveNewMemory(t *testing.T) {
	m := put(t, someShapes())
	m.Commit()
	m.Turn(0, api.Turn{Scale: -1})
	m.Commit()
	for _, v := range []asked{m, stood(t, m, 1), stood(t, m, 2)} {
		for _, id := range []int{0, 5, 31, 500, 999} {
			holdOwnMemory(t, "Get", m, 77, func() ([]complex128, api.Errno) { return v.Get(id) })
		}
		for _, b := range []api.Box{wholePlane, {0, 5}} {
			holdOwnMemory(t, "Window", m, -1, func() ([]int, api.Errno) { return v.Window(b) })
		}
		holdOwnMemory(t, "Hits", m, -1, func() ([]int, api.Errno) { return v.Hits(0) })
		for _, n := range []int{1, 3, 6, 100} {
			holdOwnMemory(t, "Near", m, -1, func() ([]int, api.Errno) { return v.Near(3i, n) })
		}
	}
}

// TestListsThatCameOutStay: what Get gave is not what the map turns.
func TestListsThatCameOutStay(t *testing.T) {
	m := put(t, model{5: square})
	l, _ := m.Get(5)
	m.Turn(5, api.Turn{Scale: 1, Shift: 100})
	if !isSame(l, square) {
		t.Errorf("P2: behind Turn what Get gave is %v", l)
	}
	fill(l, 77)
	if l, e := m.Get(5); !isSame(l, []complex128{100, 104, 104 + 3i, 100 + 3i}) || e != api.OK {
		t.Errorf("P2: the turned one is %v, %d", l, e)
	}
}

// TestMapsHangOnTheirOwnCallsAlone makes the same calls of two maps, and of a
// third one others in between; so of their versions.
func TestMapsHangOnTheirOwnCallsAlone(t *testing.T) {
	change := func(m *compass.Map, step int, by complex128) {
		m.Put(step%7, block(by, float64(step)))
		m.Turn(step%3, api.Turn{Scale: 1i, Shift: by})
		m.Drop(step * 3 % 7)
		m.Commit()
	}
	first, other, second := compass.New(), compass.New(), compass.New()
	var told []string
	for step := range 50 {
		change(first, step, 2-5i)
		told = append(told, tell(first))
	}
	for step := range 50 {
		change(second, step, 2-5i)
		change(other, step+1, 9)
		if got := tell(second); got != told[step] {
			t.Fatalf("P2: step %d: one map answers %s, another one %s", step, told[step], got)
		}
	}
	for _, m := range []*compass.Map{first, second} {
		for step, want := range slices.Backward(told) {
			if got := tell(stood(t, m, step+1)); got != want {
				t.Fatalf("P2: version %d answers %s, want %s", step+1, got, want)
			}
		}
	}
}

// TestTheViewOfAMapIsHowItStandsNow: m.View answers what m does, ahead of and
// behind each change and each version.
func TestTheViewOfAMapIsHowItStandsNow(t *testing.T) {
	m, o := compass.New(), model{}
	hold := func() {
		t.Helper()
		if m.View == nil || tell(m.View) != tell(m) {
			t.Fatal("the view of a map answers otherwise than the map")
		}
		o.holdGets(t, m.View)
	}
	hold()
	for id, shape := range someShapes() {
		m.Put(id, shape)
		o.put(id, shape)
		hold()
		m.Turn(id, api.Turn{Scale: -1})
		o.turn(id, api.Turn{Scale: -1})
		hold()
		m.Commit()
		hold()
	}
	m.Drop(5)
	o.drop(5)
	hold()
}
