package plane

import (
	"math"
	"testing"

	"compass/api"
)

func TestBoundsOfFewPoints(t *testing.T) {
	for _, c := range []struct {
		points []complex128
		want   api.Box
	}{
		{[]complex128{3 - 2i}, api.Box{3 - 2i, 3 - 2i}},
		{[]complex128{3 - 2i, 1}, api.Box{1 - 2i, 3}},
		{[]complex128{-api.MaxPart, api.MaxPart}, api.Box{-api.MaxPart, api.MaxPart}},
	} {
		if got := Bounds(c.points); got != c.want {
			t.Errorf("Bounds(%v) = %v, want %v", c.points, got, c.want)
		}
	}
}

func TestIsBox(t *testing.T) {
	for _, b := range []api.Box{{}, {1, 1}, {-1 - 1i, 1 + 1i}, {0, 5}, {0, 5i}, {complex(-api.MaxPart, -api.MaxPart), complex(api.MaxPart, api.MaxPart)}} {
		if !IsBox(b) {
			t.Errorf("%v is no box", b)
		}
	}
	nan, inf := math.NaN(), math.Inf(1)
	for _, b := range []api.Box{{1, 0}, {1i, 0}, {1, 5i}, {1i, 5}, {0, 0.5}, {0.5, 1}, {0, api.MaxPart + 1}, {-api.MaxPart - 1, 0}, {complex(nan, 0), 0}, {0, complex(0, nan)}, {complex(nan, nan), complex(nan, nan)}, {0, complex(inf, inf)}, {complex(-inf, 0), 0}} {
		if IsBox(b) {
			t.Errorf("%v is a box", b)
		}
	}
}

func TestMeet(t *testing.T) {
	box := api.Box{2 + 2i, 5 + 4i}
	for _, c := range []struct {
		other api.Box
		want  bool
	}{
		{box, true}, {api.Box{3 + 3i, 3 + 3i}, true}, {api.Box{0, 9 + 9i}, true}, {api.Box{0, 2 + 2i}, true}, {api.Box{5 + 4i, 9 + 9i}, true},
		{api.Box{5, 9 + 2i}, true}, {api.Box{4i, 2 + 9i}, true}, {api.Box{3, 3 + 9i}, true}, {api.Box{3i, 9 + 3i}, true},
		{api.Box{0, 1 + 9i}, false}, {api.Box{6, 9 + 9i}, false}, {api.Box{0, 9 + 1i}, false}, {api.Box{5i, 9 + 9i}, false}, {api.Box{6 + 5i, 9 + 9i}, false},
	} {
		if Meet(box, c.other) != c.want || Meet(c.other, box) != c.want {
			t.Errorf("Meet(%v, %v) = %v and %v", box, c.other, Meet(box, c.other), Meet(c.other, box))
		}
	}
}

func TestHas(t *testing.T) {
	box := api.Box{2 + 2i, 5 + 4i}
	for _, z := range []complex128{2 + 2i, 5 + 4i, 2 + 4i, 5 + 2i, 3 + 3i, 2 + 3i, 3 + 4i} {
		if !Has(box, z) {
			t.Errorf("%v is not in %v", z, box)
		}
	}
	for _, z := range []complex128{1 + 3i, 6 + 3i, 3 + 1i, 3 + 5i, 1 + 1i, 6 + 5i, 0} {
		if Has(box, z) {
			t.Errorf("%v is in %v", z, box)
		}
	}
}

func TestOff(t *testing.T) {
	box := api.Box{2 + 2i, 5 + 4i}
	for _, c := range []struct {
		place complex128
		want  float64
	}{
		{2 + 2i, 0}, {3 + 3i, 0}, {5 + 4i, 0}, {1 + 3i, 1}, {7 + 3i, 4}, {3 - 1i, 9}, {4 + 8i, 16}, {0, 8}, {8 + 8i, 25}, {-1 + 5i, 10}, {6, 5},
		{complex(-api.MaxPart, -api.MaxPart), 2 * (api.MaxPart + 2) * (api.MaxPart + 2)},
		{complex(api.MaxPart, 0), (api.MaxPart-5)*(api.MaxPart-5) + 4},
	} {
		if got := Place(c.place).Off(box); got != c.want {
			t.Errorf("%v is %v off %v, want %v", box, got, c.place, c.want)
		}
	}
	greatest := complex(api.MaxPart, api.MaxPart)
	if got := Place(-greatest).Off(api.Box{greatest, greatest}); got != 8*api.MaxPart*api.MaxPart {
		t.Errorf("from corner to corner of the plane: %v", got)
	}
}
