package compass_test

import (
	"math"
	"slices"
	"testing"

	"compass/api"
	"compass/compass"
)

func TestApplyToShapes(t *testing.T) {
	shape := []complex128{0, 2, 2 + 1i}
	for _, c := range []struct {
		name  string
		t     api.Turn
		shape []complex128
		want  []complex128
	}{
		{"the document's", api.Turn{Scale: 1i, Shift: 1}, shape, []complex128{1, 1 + 2i, 2i}},
		{"nothing", api.Turn{Scale: 1}, shape, shape},
		{"to one place", api.Turn{Shift: 5 - 3i}, shape, []complex128{5 - 3i, 5 - 3i, 5 - 3i}},
		{"half around", api.Turn{Scale: -1}, shape, []complex128{0, -2, -2 - 1i}},
		{"turn, scale and move", api.Turn{Scale: 3 - 2i, Shift: -1i}, shape, []complex128{-1i, 6 - 5i, 8 - 2i}},
		{"the greatest scale", api.Turn{Scale: 64 + 64i}, shape, []complex128{0, 128 + 128i, 64 + 192i}},
		{"the least scale", api.Turn{Scale: -64 - 64i}, shape, []complex128{0, -128 - 128i, -64 - 192i}},
		{"just not too far right", api.Turn{Scale: 64, Shift: far - 128}, shape, []complex128{far - 128, far, far + 64i}},
		{"just not too far left", api.Turn{Scale: -64, Shift: 128 - far}, shape, []complex128{128 - far, -far, -far - 64i}},
		{"just not too far up", api.Turn{Scale: 64i, Shift: complex(0, far-128)}, shape, []complex128{complex(0, far-128), complex(0, far), complex(-64, far)}},
		{"just not too far down", api.Turn{Scale: -64i, Shift: complex(0, 128-far)}, shape, []complex128{complex(0, 128-far), complex(0, -far), complex(64, -far)}},
		{"from one corner of the plane to the other", api.Turn{Scale: -1}, []complex128{complex(far, far), complex(-far, far), 0}, []complex128{complex(-far, -far), complex(far, -far), 0}},
		{"the greatest shift", api.Turn{Shift: complex(far, far)}, shape, slices.Repeat([]complex128{complex(far, far)}, 3)},
		{"the least shift", api.Turn{Shift: complex(-far, -far)}, shape, slices.Repeat([]complex128{complex(-far, -far)}, 3)},
		{"too far but for the shift", api.Turn{Scale: 2, Shift: complex(-far, -far)}, []complex128{complex(far, far), 1, 1i}, []complex128{complex(far, far), complex(2-far, -far), complex(-far, 2-far)}},
		{"-0", api.Turn{Scale: complex(math.Copysign(0, -1), 1), Shift: complex(0, math.Copysign(0, -1))}, shape, []complex128{0, 2i, -1 + 2i}},
	} {
		if l, e := compass.Apply(c.t, c.shape); !isSame(l, c.want) || e != api.OK {
			t.Errorf("P5: %s: Apply(%v, %v) = %v, %d, want %v", c.name, c.t, c.shape, l, e, c.want)
		}
	}
}

// TestApplyInIntegers holds Apply against the product and the sum, made of
// integers, and against the bounds of a point.
func TestApplyInIntegers(t *testing.T) {
	chance := numbers(3)
	made, refused := 0, 0
	for range 4000 {
		shape := chance.points(3+int(chance.next()%30), 1<<(chance.next()%21))
		turn := api.Turn{Scale: chance.point(64), Shift: chance.point(far)}
		want, wantErr := make([]complex128, len(shape)), api.OK
		for i, z := range shape {
			x, y, a, b := int(real(z)), int(imag(z)), int(real(turn.Scale)), int(imag(turn.Scale))
			u, v := a*x-b*y+int(real(turn.Shift)), a*y+b*x+int(imag(turn.Shift))
			if max(u, -u, v, -v) > far {
				wantErr = api.ErrFar
			}
			want[i] = complex(float64(u), float64(v))
		}
		made++
		if wantErr != api.OK {
			want = nil
			refused++
		}
		if l, e := compass.Apply(turn, shape); !isSame(l, want) || e != wantErr {
			t.Fatalf("P5: Apply(%v, %v) = %v, %d, want %v, %d", turn, shape, l, e, want, wantErr)
		}
	}
	if refused < 100 || made-refused < 100 {
		t.Errorf("of %d turned shapes %d are too far: not a fair mix", made, refused)
	}
}

func TestApplyTooFar(t *testing.T) {
	for i := range 3 {
		for _, c := range []struct {
			t api.Turn
			z complex128
		}{
			{api.Turn{Scale: 1, Shift: 1}, far}, {api.Turn{Scale: 1, Shift: -1}, -far}, {api.Turn{Scale: 1, Shift: 1i}, far * 1i}, {api.Turn{Scale: 1, Shift: -1i}, -far * 1i},
			{api.Turn{Scale: 1i, Shift: 1i}, far}, {api.Turn{Scale: 64, Shift: far - 127}, 2}, {api.Turn{Scale: -64, Shift: 127 - far}, 2}, {api.Turn{Scale: 64 + 64i}, complex(far, far)}, {api.Turn{Scale: -64 + 64i, Shift: complex(-far, far)}, complex(far, -far)}, {api.Turn{Scale: 1 + 1i}, complex(far, 1)},
		} {
			shape := with(make([]complex128, 3), i, c.z)
			if l, e := compass.Apply(c.t, shape); len(l) != 0 || e != api.ErrFar {
				t.Errorf("P5: Apply(%v, %v) = %v, %d, want ErrFar", c.t, shape, l, e)
			}
		}
	}
}

func TestApplyOfNoShapesAndNoTurns(t *testing.T) {
	noTurn, tooFar, fine := api.Turn{Scale: 65}, api.Turn{Scale: 64, Shift: far}, api.Turn{Scale: 1}
	refuse := func(turn api.Turn, shape []complex128, want api.Errno) {
		t.Helper()
		if l, e := compass.Apply(turn, shape); len(l) != 0 || e != want {
			t.Errorf("P5: Apply(%v, %v) = %v, %d, want the error %d", turn, shape, l, e, want)
		}
	}
	for n := range 80 {
		shape := spiral(n)
		if n < 3 || n > 32 {
			refuse(fine, shape, api.ErrShape)
			refuse(noTurn, shape, api.ErrShape)
			refuse(tooFar, append(shape, complex(math.Inf(1), 0))[1:], api.ErrShape)
		} else if l, e := compass.Apply(fine, shape); !isSame(l, shape) || e != api.OK {
			t.Errorf("P5: Apply to %d points = %v, %d", n, l, e)
		}
	}
	refuse(fine, nil, api.ErrShape)
	for _, z := range noPoints() {
		for i := range square {
			refuse(fine, with(square, i, z), api.ErrPoint)
			refuse(noTurn, with(square, i, z), api.ErrPoint)
			refuse(tooFar, with(square, i, z), api.ErrPoint)
			refuse(api.Turn{}, with(square, i, z), api.ErrPoint)
		}
		refuse(api.Turn{Scale: 1, Shift: z}, square, api.ErrTurn)
		refuse(api.Turn{Scale: 64, Shift: z}, []complex128{far, far, far}, api.ErrTurn)
	}
	for _, z := range noScales() {
		refuse(api.Turn{Scale: z}, square, api.ErrTurn)
		refuse(api.Turn{Scale: z}, make([]complex128, 3), api.ErrTurn)
		refuse(api.Turn{Scale: z, Shift: far}, []complex128{far, far, far}, api.ErrTurn)
	}
	refuse(tooFar, square, api.ErrFar)
}

func TestComposeOfTurns(t *testing.T) {
	one := api.Turn{Scale: 1}
	for _, c := range []struct {
		name       string
		t, u, want api.Turn
	}{
		{"the document's", api.Turn{Scale: 1i}, api.Turn{Scale: 1i, Shift: 1}, api.Turn{Scale: -1, Shift: 1i}},
		{"the document's, the other way round", api.Turn{Scale: 1i, Shift: 1}, api.Turn{Scale: 1i}, api.Turn{Scale: -1, Shift: 1}},
		{"both shifts", api.Turn{Scale: 2 + 1i, Shift: 3}, api.Turn{Scale: 1 - 1i, Shift: 1i}, api.Turn{Scale: 3 - 1i, Shift: 2 + 2i}},
		{"nothing, then one", api.Turn{Scale: 5 - 2i, Shift: 7i}, one, api.Turn{Scale: 5 - 2i, Shift: 7i}},
		{"one, then nothing", one, api.Turn{Scale: 5 - 2i, Shift: 7i}, api.Turn{Scale: 5 - 2i, Shift: 7i}},
		{"noughts", api.Turn{}, api.Turn{Scale: 9, Shift: 9}, api.Turn{}},
		{"then to one place", api.Turn{Shift: 4}, api.Turn{Scale: 64, Shift: far}, api.Turn{Shift: 4}},
		{"the greatest scale", api.Turn{Scale: 8}, api.Turn{Scale: 8}, api.Turn{Scale: 64}},
		{"the least scale", api.Turn{Scale: -8i}, api.Turn{Scale: -8i}, api.Turn{Scale: -64}},
		{"64 and -64", api.Turn{Scale: -1}, api.Turn{Scale: -64 + 64i}, api.Turn{Scale: 64 - 64i}},
		{"the greatest shift", api.Turn{Scale: 2, Shift: complex(-far, -far)}, api.Turn{Scale: 1, Shift: complex(far, far)}, api.Turn{Scale: 2, Shift: complex(far, far)}},
		{"the least shift", api.Turn{Scale: -1}, api.Turn{Scale: 1, Shift: complex(far, far)}, api.Turn{Scale: -1, Shift: complex(-far, -far)}},
	} {
		if x, e := compass.Compose(c.t, c.u); x != c.want || e != api.OK {
			t.Errorf("P5: %s: Compose(%v, %v) = %v, %d, want %v", c.name, c.t, c.u, x, e, c.want)
		}
	}
}

func TestComposeTooFar(t *testing.T) {
	for _, c := range []struct{ t, u api.Turn }{
		{api.Turn{Scale: 8}, api.Turn{Scale: 9}}, {api.Turn{Scale: 13}, api.Turn{Scale: 5}}, {api.Turn{Scale: 8i}, api.Turn{Scale: 9i}}, {api.Turn{Scale: 8}, api.Turn{Scale: 9i}}, {api.Turn{Scale: -8}, api.Turn{Scale: 9i}},
		{api.Turn{Scale: 1 + 1i}, api.Turn{Scale: 64 - 64i}}, {api.Turn{Scale: 64}, api.Turn{Scale: 64}}, {api.Turn{Scale: 64 + 64i}, api.Turn{Scale: -64 + 64i}},
		{api.Turn{Scale: 2}, api.Turn{Scale: 1, Shift: far}}, {api.Turn{Scale: 1, Shift: 1}, api.Turn{Scale: 1, Shift: far}}, {api.Turn{Scale: 1, Shift: -1i}, api.Turn{Shift: -far * 1i}}, {api.Turn{Scale: 1i, Shift: -1}, api.Turn{Shift: far * 1i}}, {api.Turn{Scale: 64, Shift: far}, api.Turn{Scale: 64, Shift: far}},
	} {
		if x, e := compass.Compose(c.t, c.u); x != (api.Turn{}) || e != api.ErrFar {
			t.Errorf("P5: Compose(%v, %v) = %v, %d, want ErrFar", c.t, c.u, x, e)
		}
	}
}

func TestComposeOfNoTurns(t *testing.T) {
	var wrong []api.Turn
	for _, z := range noScales() {
		wrong = append(wrong, api.Turn{Scale: z}, api.Turn{Scale: z, Shift: 1i})
	}
	for _, z := range noPoints() {
		wrong = append(wrong, api.Turn{Shift: z}, api.Turn{Scale: 1, Shift: z})
	}
	for _, w := range wrong {
		// The last one would be too far, were w a turn: ErrTurn goes first.
		for _, u := range []api.Turn{{}, {Scale: 1}, w, {Scale: 64, Shift: far}} {
			x, e := compass.Compose(w, u)
			y, f := compass.Compose(u, w)
			if x != (api.Turn{}) || e != api.ErrTurn || y != (api.Turn{}) || f != api.ErrTurn {
				t.Errorf("P5: Compose of %v and %v = %v, %d; the other way round %v, %d", w, u, x, e, y, f)
			}
		}
	}
}

// TestComposeAsApply: what Compose makes does what u does, and then what t does.
func TestComposeAsApply(t *testing.T) {
	chance := numbers(4)
	done := 0
	for range 3000 {
		v := api.Turn{Scale: chance.point(9), Shift: chance.point(5000)}
		u := api.Turn{Scale: chance.point(9), Shift: chance.point(5000)}
		shape := chance.points(5, 1000)
		both, e := compass.Compose(v, u)
		scale := v.Scale * u.Scale
		if tooGreat := math.Abs(real(scale)) > 64 || math.Abs(imag(scale)) > 64; tooGreat != (e == api.ErrFar) {
			t.Fatalf("P5: Compose(%v, %v) = %v, %d", v, u, both, e)
		}
		if e != api.OK {
			continue
		}
		done++
		first, _ := compass.Apply(u, shape)
		want, wantErr := compass.Apply(v, first)
		if got, e := compass.Apply(both, shape); !isSame(got, want) || e != wantErr || e != api.OK {
			t.Fatalf("P5: Compose(%v, %v) = %v makes %v of %v, want %v", v, u, both, got, shape, want)
		}
	}
	if done < 500 {
		t.Errorf("only %d of the turns were composed", done)
	}
}

// TestTurnedShapes holds Apply, Twice and Winds against each other.
func TestTurnedShapes(t *testing.T) {
	chance := numbers(5)
	for range 3000 {
		turn := api.Turn{Scale: chance.point(3), Shift: chance.point(100)}
		shape, p := chance.points(3+int(chance.next()%30), 6), chance.point(6)
		turned, _ := compass.Apply(turn, append(slices.Clone(shape[1:]), p))
		q := turned[len(turned)-1]
		turned, _ = compass.Apply(turn, shape)
		times := int(real(turn.Scale)*real(turn.Scale) + imag(turn.Scale)*imag(turn.Scale))
		before, _ := compass.Twice(shape)
		if after, e := compass.Twice(turned); after != times*before || e != api.OK {
			t.Fatalf("P3, P5: %v turned by %v: Twice is %d, was %d", shape, turn, after, before)
		}
		n, on, _ := compass.Winds(shape, p)
		if times == 0 {
			n, on = 0, true
		}
		if m, is, e := compass.Winds(turned, q); m != n || is != on || e != api.OK {
			t.Fatalf("P4, P5: %v turned by %v: Winds is %d, %v, was %d, %v", shape, turn, m, is, n, on)
		}
	}
}
