package plane

import (
	"math"
	"testing"

	"compass/api"
)

func TestCross(t *testing.T) {
	for _, c := range []struct {
		a, b complex128
		want float64
	}{
		{1, 1i, 1}, {1i, 1, -1}, {2 + 1i, 4 + 2i, 0}, {3 + 2i, 5 - 7i, -31}, {0, 5, 0},
		{complex(2*api.MaxPart, 2*api.MaxPart), complex(2*api.MaxPart, 2*api.MaxPart-1), -2 * api.MaxPart},
	} {
		if got := Cross(c.a, c.b); got != c.want {
			t.Errorf("Cross(%v, %v) = %v, want %v", c.a, c.b, got, c.want)
		}
	}
}

func TestIsPoint(t *testing.T) {
	for _, x := range []float64{0, math.Copysign(0, -1), 1, -1, api.MaxPart, -api.MaxPart} {
		if !IsPoint(complex(x, 0)) || !IsPoint(complex(0, x)) || !IsPoint(complex(x, x)) {
			t.Errorf("%v is no part of a point", x)
		}
	}
	for _, x := range []float64{0.5, api.MaxPart + 1, -api.MaxPart - 1, api.MaxPart + 0.5, math.NaN(), math.Inf(1), math.Inf(-1)} {
		if IsPoint(complex(x, 0)) || IsPoint(complex(0, x)) || IsPoint(complex(x, x)) {
			t.Errorf("%v is a part of a point", x)
		}
	}
}

func TestIsTurn(t *testing.T) {
	for _, x := range []float64{0, 1, api.MaxScale, -api.MaxScale} {
		if !IsTurn(api.Turn{Scale: complex(x, 0)}) || !IsTurn(api.Turn{Scale: complex(0, x), Shift: api.MaxPart}) {
			t.Errorf("%v is no part of a scale", x)
		}
	}
	for _, x := range []float64{0.5, api.MaxScale + 1, -api.MaxScale - 1, math.NaN(), math.Inf(1)} {
		if IsTurn(api.Turn{Scale: complex(x, 0)}) || IsTurn(api.Turn{Scale: complex(0, x)}) {
			t.Errorf("%v is a part of a scale", x)
		}
	}
	if IsTurn(api.Turn{Shift: api.MaxPart + 1}) {
		t.Error("a shift may be no point")
	}
}

func TestBendsLeft(t *testing.T) {
	for _, c := range []struct {
		a, b, c complex128
		want    bool
	}{
		{0, 1, 1 + 1i, true}, {0, 1, 1 - 1i, false}, {0, 1, 2, false}, {0, 1, 0, false},
		{-api.MaxPart, api.MaxPart, 1i, true}, {-api.MaxPart, 0, api.MaxPart, false},
	} {
		if got := bendsLeft(c.a, c.b, c.c); got != c.want {
			t.Errorf("bendsLeft(%v, %v, %v) = %v", c.a, c.b, c.c, got)
		}
	}
}
