package compass_test

import (
	"fmt"
	"math"
	"slices"
	"testing"

	"compass/api"
	"compass/compass"
)

// noPanic makes a call, and fails the test if it panics.
func noPanic(t *testing.T, name string, call func()) {
	t.Helper()
	defer func() {
		if r := recover(); r != nil {
			t.Errorf("P1: %s panics: %v", name, r)
		}
	}()
	call()
}

// anyNumbers: numbers of all kinds, points among them.
func anyNumbers() []complex128 {
	kinds := []float64{0, math.Copysign(0, -1), 1, -64, 64, far, -far, 0.5, far + 1, 1e300, -math.MaxFloat64, 5e-324, math.NaN(), math.Inf(1), math.Inf(-1)}
	var list []complex128
	for _, x := range kinds {
		for _, y := range kinds {
			list = append(list, complex(x, y))
		}
	}
	return list
}

var anyInts = []int{0, 1, -1, 2, 99, 100, 101, 999, 1000, math.MaxInt, math.MinInt, math.MaxInt32 + 1}

func TestNoCallPanicsAtAnyNumber(t *testing.T) {
	all := anyNumbers()
	for i, z := range all {
		w := all[(i*7+3)%len(all)]
		for _, shape := range [][]complex128{nil, {}, {z}, {z, w}, {z, w, z}, {z, z, z}, {0, 1, z}, slices.Repeat([]complex128{z}, 32), slices.Repeat([]complex128{w, z}, 50)} {
			noPanic(t, fmt.Sprintf("a call with %v and %v", shape, w), func() {
				compass.Twice(shape)
				compass.Winds(shape, w)
				compass.Apply(api.Turn{Scale: z, Shift: w}, shape)
				compass.Apply(api.Turn{Scale: 1, Shift: w}, shape)
				compass.Bounds(shape)
				compass.Hull(shape)
			})
		}
		noPanic(t, fmt.Sprintf("Compose with %v and %v", z, w), func() {
			compass.Compose(api.Turn{Scale: z, Shift: w}, api.Turn{Scale: w, Shift: z})
			compass.Compose(api.Turn{Scale: z}, api.Turn{Shift: w})
		})
	}
}

func TestNoCallOfAMapPanics(t *testing.T) {
	for _, z := range anyNumbers() {
		m := compass.New()
		if m == nil || m.View == nil {
			t.Fatal("P1: New makes a map that can't be asked")
		}
		for _, i := range anyInts {
			noPanic(t, fmt.Sprintf("a call of a map with %d and %v", i, z), func() {
				m.Put(i, square)
				m.Put(i, []complex128{z, z})
				m.Turn(i, api.Turn{Scale: z, Shift: z})
				askAll(m.View, i, z)
				m.Commit()
				if v, e := m.At(i); e == api.OK {
					askAll(v, i, z)
				}
				m.Drop(i)
				askAll(m.View, i, z)
				askAll(stood(t, m, 0), i, z)
				askAll(stood(t, m, m.Commit()-1), i, z)
			})
		}
	}
}

func askAll(v *compass.View, i int, z complex128) {
	v.Count()
	v.Get(i)
	v.Window(api.Box{z, z})
	v.Window(api.Box{0, z})
	v.Hits(z)
	v.Near(z, i)
}

// TestFirstErrorIsAnswered: all errors that a call knows apply at once, and
// then one less each time.
func TestFirstErrorIsAnswered(t *testing.T) {
	nan := complex(math.NaN(), math.NaN())
	noTurn, tooFar := api.Turn{Scale: nan, Shift: nan}, api.Turn{Scale: 64, Shift: far}
	two, noPoints, points := []complex128{nan, far}, []complex128{far, nan, far}, []complex128{far, far, far}
	many := slices.Repeat([]complex128{nan}, 65)
	for _, c := range []struct {
		name string
		call func() (bool, api.Errno)
		want api.Errno
	}{
		{"Twice of two, no points", func() (bool, api.Errno) { n, e := compass.Twice(two); return n == 0, e }, api.ErrShape},
		{"Twice of no points", func() (bool, api.Errno) { n, e := compass.Twice(noPoints); return n == 0, e }, api.ErrPoint},
		{"Winds of two, no points", func() (bool, api.Errno) { n, on, e := compass.Winds(two, nan); return n == 0 && !on, e }, api.ErrShape},
		{"Winds around no point", func() (bool, api.Errno) { n, on, e := compass.Winds(points, nan); return n == 0 && !on, e }, api.ErrPoint},
		{"Winds of no points, on a corner", func() (bool, api.Errno) { n, on, e := compass.Winds(noPoints, far); return n == 0 && !on, e }, api.ErrPoint},
		{"Apply of no turn to two, no points", func() (bool, api.Errno) { l, e := compass.Apply(noTurn, two); return len(l) == 0, e }, api.ErrShape},
		{"Apply of no turn to no points", func() (bool, api.Errno) { l, e := compass.Apply(noTurn, noPoints); return len(l) == 0, e }, api.ErrPoint},
		{"Apply of too much to no points", func() (bool, api.Errno) { l, e := compass.Apply(tooFar, noPoints); return len(l) == 0, e }, api.ErrPoint},
		{"Apply of no turn", func() (bool, api.Errno) { l, e := compass.Apply(noTurn, points); return len(l) == 0, e }, api.ErrTurn},
		{"Apply of no turn, too far", func() (bool, api.Errno) {
			l, e := compass.Apply(api.Turn{Scale: 65, Shift: far}, points)
			return len(l) == 0, e
		}, api.ErrTurn},
		{"Apply, too far", func() (bool, api.Errno) { l, e := compass.Apply(tooFar, points); return len(l) == 0, e }, api.ErrFar},
		{"Bounds of two, no points", func() (bool, api.Errno) { b, e := compass.Bounds(two); return b == api.Box{}, e }, api.ErrShape},
		{"Bounds of too many, no points", func() (bool, api.Errno) { b, e := compass.Bounds(many[:33]); return b == api.Box{}, e }, api.ErrShape},
		{"Bounds of no points", func() (bool, api.Errno) { b, e := compass.Bounds(many[:32]); return b == api.Box{}, e }, api.ErrPoint},
		{"Hull of too many, no points", func() (bool, api.Errno) { l, e := compass.Hull(many); return len(l) == 0, e }, api.ErrShape},
		{"Hull of no points", func() (bool, api.Errno) { l, e := compass.Hull(many[:64]); return len(l) == 0, e }, api.ErrPoint},
		{"Hull of two, no points", func() (bool, api.Errno) { l, e := compass.Hull(two); return len(l) == 0, e }, api.ErrPoint},
		{"Compose of no turn, too far", func() (bool, api.Errno) {
			x, e := compass.Compose(tooFar, api.Turn{Scale: 65, Shift: far})
			return x == api.Turn{}, e
		}, api.ErrTurn},
		{"Compose, too far", func() (bool, api.Errno) { x, e := compass.Compose(tooFar, tooFar); return x == api.Turn{}, e }, api.ErrFar},
	} {
		if empty, e := c.call(); !empty || e != c.want {
			t.Errorf("P1: %s: the error is %d, want %d; beside it is nothing: %v", c.name, e, c.want, empty)
		}
	}
}

// roomy: a list of n points with spare room behind it, and the whole of it.
func roomy(n int) (list, whole []complex128) {
	whole = append(spiral(n), 101, 102i, 103, 104i)
	return whole[:n], whole
}

func TestNothingHandedInIsWrittenInto(t *testing.T) {
	turns := []api.Turn{{}, {Scale: 1}, {Scale: 2i, Shift: 3}, {Scale: 64, Shift: far}, {Scale: 65}}
	for n := range 70 {
		for _, turn := range turns {
			list, whole := roomy(n)
			before := slices.Clone(whole)
			compass.Twice(list)
			compass.Winds(list, 1+1i)
			compass.Apply(turn, list)
			compass.Bounds(list)
			compass.Hull(list)
			if !isSame(whole, before) {
				t.Fatalf("P2: %v has become %v", before, whole)
			}
		}
	}
}

// holdNewMemory writes all over what a call gives, its spare room too, and all
// over what was handed in.
func holdNewMemory(t *testing.T, name string, whole []complex128, call func() []complex128) {
	t.Helper()
	before := slices.Clone(whole)
	first, second := call(), call()
	want := slices.Clone(second)
	fill(first, -7)
	if !isSame(whole, before) || !isSame(second, want) {
		t.Fatalf("P2: what %s gives shares memory: %v, %v", name, whole, second)
	}
	fill(whole, -8)
	if !isSame(second, want) {
		t.Fatalf("P2: what %s gives shares memory with what was handed in: %v", name, second)
	}
}

func TestApplyGivesNewMemory(t *testing.T) {
	for _, turn := range []api.Turn{{}, {Scale: 1}, {Scale: 2i, Shift: 3}} {
		for n := api.MinShape; n <= api.MaxShape; n++ {
			list, whole := roomy(n)
			holdNewMemory(t, "Apply", whole, func() []complex128 { l, _ := compass.Apply(turn, list); return l })
		}
	}
}

// TestHullGivesNewMemory: also where the points are the answer as they stand, a
// line, or one point.
func TestHullGivesNewMemory(t *testing.T) {
	for n := 1; n <= api.MaxHull; n++ {
		for _, points := range [][]complex128{spiral(n), bowl(n), backwards(column(n)), make([]complex128, n)} {
			whole := append(points, 101, 102i, 103, 104i)
			holdNewMemory(t, "Hull", whole, func() []complex128 { l, _ := compass.Hull(whole[:n]); return l })
		}
	}
}

// fill writes all over a list and its spare room.
func fill[T any](list []T, z T) {
	list = list[:cap(list)]
	for i := range list {
		list[i] = z
	}
}

// TestAnswersHangOnArgumentsAlone makes each call again after many others, and
// on a list that lies elsewhere and has other spare room.
func TestAnswersHangOnArgumentsAlone(t *testing.T) {
	tell := func(shape []complex128) string {
		n, e := compass.Twice(shape)
		times, on, f := compass.Winds(shape, 1)
		l, g := compass.Apply(api.Turn{Scale: 2 - 1i, Shift: 5}, shape)
		x, h := compass.Compose(api.Turn{Scale: 2}, api.Turn{Scale: 3, Shift: complex(float64(len(shape)), 0)})
		b, i := compass.Bounds(shape)
		around, j := compass.Hull(shape)
		return fmt.Sprint(n, e, times, on, f, l, g, x, h, b, i, around, j)
	}
	var told []string
	for n := range 70 {
		list, _ := roomy(n)
		told = append(told, tell(list))
	}
	for n, want := range slices.Backward(told) {
		if got := tell(slices.Clip(spiral(n))); got != want {
			t.Errorf("P2: of %d points the calls answered %s, and then %s", n, want, got)
		}
	}
}
