package compass_test

import (
	"maps"
	"math"
	"runtime"
	"slices"
	"testing"

	"compass/api"
	"compass/compass"
)

// grown: a map with versions, and a model of each: one at which something was
// turned and dropped, that one again, one without shapes behind others that
// have some, and one at which ids that had shapes have others. The map stands
// otherwise than all of them.
func grown(t *testing.T) (*compass.Map, []model) {
	t.Helper()
	m, fewer := put(t, someShapes()), someShapes()
	m.Commit()
	fewer.turn(0, api.Turn{Scale: -1})
	fewer.drop(5)
	fewer.drop(999)
	m.Turn(0, api.Turn{Scale: -1})
	m.Drop(5)
	m.Drop(999)
	m.Commit()
	m.Commit()
	for id := range fewer {
		m.Drop(id)
	}
	m.Commit()
	m.Put(0, block(1, 2))
	m.Put(999, spiral(32))
	m.Commit()
	m.Drop(0)
	m.Put(5, square)
	return m, []model{{}, someShapes(), fewer, fewer, {}, {0: block(1, 2), 999: spiral(32)}}
}

// holdVersions: a map has just the versions that these are models of.
func holdVersions(t *testing.T, m *compass.Map, os []model) {
	t.Helper()
	for n, o := range os {
		o.holdGets(t, stood(t, m, n))
	}
	holdNoVersion(t, m, -1)
	holdNoVersion(t, m, len(os))
}

func holdNoVersion(t *testing.T, m *compass.Map, version int) {
	t.Helper()
	if v, e := m.At(version); v != nil || e != api.ErrVersion {
		t.Fatalf("P8: At(%d) = %v, %d, want nil, ErrVersion", version, v, e)
	}
}

// tellAll: what a map tells, and each of its versions.
func tellAll(t *testing.T, m *compass.Map, last int) string {
	t.Helper()
	text := tell(m)
	for n := range last + 1 {
		text += "\n" + tell(stood(t, m, n))
	}
	holdNoVersion(t, m, last+1)
	return text
}

func TestVersionsOfAMap(t *testing.T) {
	m, os := grown(t)
	holdVersions(t, m, os)
	model{5: square, 999: spiral(32)}.holdGets(t, m)
	for n, o := range os {
		for _, p := range []complex128{0, 2 + 1i, -2 - 1i, 5, 20 + 20i, complex(far, far)} {
			o.holdAsked(t, stood(t, m, n), api.Box{p, p}, p, 3)
		}
	}
}

// TestVersion0: it has no shapes, ahead of and behind a first Commit.
func TestVersion0(t *testing.T) {
	m := compass.New()
	early := stood(t, m, 0)
	hold := func(os ...model) {
		t.Helper()
		model{}.holdGets(t, early)
		model{}.holdAsked(t, early, wholePlane, 0, 100)
		holdVersions(t, m, append([]model{{}}, os...))
	}
	hold()
	m.Put(0, square)
	m.Put(999, square)
	hold()
	if n := m.Commit(); n != 1 {
		t.Fatalf("P8: the first Commit = %d", n)
	}
	hold(model{0: square, 999: square})
	m.Drop(0)
	hold(model{0: square, 999: square})
}

func TestCommitOfAMapWithoutShapes(t *testing.T) {
	m := compass.New()
	for n := range 5 {
		holdVersions(t, m, make([]model, n+1))
		if got := m.Commit(); got != n+1 {
			t.Fatalf("P8: Commit = %d, want %d", got, n+1)
		}
	}
	holdVersions(t, m, make([]model, 6))
}

// TestCommitCountsVersions: by one each time, whatever was done ahead of it, or
// asked, or refused.
func TestCommitCountsVersions(t *testing.T) {
	m, turned := compass.New(), model{0: square}
	turned.turn(0, api.Turn{Scale: 1i})
	os := []model{{}}
	for _, c := range []struct {
		name string
		do   func()
		want model
	}{
		{"nothing", func() {}, model{}},
		{"Put", func() { m.Put(0, square) }, model{0: square}},
		{"Put where a shape is", func() { m.Put(0, spiral(3)) }, model{0: square}},
		{"Put at no id", func() { m.Put(1000, square) }, model{0: square}},
		{"At no version", func() { m.At(77) }, model{0: square}},
		{"At an early version", func() { m.At(1) }, model{0: square}},
		{"Turn", func() { m.Turn(0, api.Turn{Scale: 1i}) }, turned},
		{"Turn by none", func() { m.Turn(0, api.Turn{Scale: 65}) }, turned},
		{"Drop", func() { m.Drop(0) }, model{}},
		{"Drop of none", func() { m.Drop(0) }, model{}},
		{"many", func() { m.Put(0, square); m.Drop(0); m.Put(999, square); m.Put(0, spiral(3)) }, model{0: spiral(3), 999: square}},
		{"questions", func() { tell(m) }, model{0: spiral(3), 999: square}},
	} {
		c.do()
		os = append(os, c.want)
		if n := m.Commit(); n != len(os)-1 {
			t.Fatalf("P8: behind %s Commit = %d, want %d", c.name, n, len(os)-1)
		}
		holdVersions(t, m, os)
	}
}

// TestAShapeBehindAVersion: each way of changing one, at ids in one row and at
// the ends of what there may be, leaves the version as it was.
func TestAShapeBehindAVersion(t *testing.T) {
	for _, id := range []int{0, 1, 31, 32, 500, 998, 999} {
		for name, change := range map[string]func(m *compass.Map){
			"Drop":          func(m *compass.Map) { m.Drop(id) },
			"Turn":          func(m *compass.Map) { m.Turn(id, api.Turn{Scale: 2i, Shift: 50}) },
			"Turn to where": func(m *compass.Map) { m.Turn(id, api.Turn{Scale: 1}) },
			"Drop, Put":     func(m *compass.Map) { m.Drop(id); m.Put(id, block(50, 1)) },
			"Turn, Drop":    func(m *compass.Map) { m.Turn(id, api.Turn{}); m.Drop(id) },
			"Put beside":    func(m *compass.Map) { m.Put((id+1)%1000, block(50, 1)) },
			"Put, Drop":     func(m *compass.Map) { m.Put((id+999)%1000, block(50, 1)); m.Drop((id + 999) % 1000); m.Drop(id) },
		} {
			m, o := put(t, model{id: square}), model{id: square}
			v := stood(t, m, m.Commit())
			change(m)
			o.holdGets(t, v)
			o.holdAsked(t, v, api.Box{0, 1}, 1+1i, 5)
			after := tell(m)
			if n := m.Commit(); n != 2 || tell(stood(t, m, 2)) != after {
				t.Errorf("P8: %s at %d: Commit = %d, and is not how the map stands", name, id, n)
			}
			m.Drop(id)
			m.Put(id, square)
			o.holdGets(t, v)
			o.holdGets(t, stood(t, m, 1))
			if tell(stood(t, m, 2)) != after {
				t.Errorf("P8: %s at %d: version 2 has changed", name, id)
			}
		}
	}
}

// TestTheSameVersionTwice: both views tell the same, and one that its owner
// writes over is nobody else's.
func TestTheSameVersionTwice(t *testing.T) {
	m, os := grown(t)
	before := tellAll(t, m, len(os)-1)
	for n, o := range os {
		first, second := stood(t, m, n), stood(t, m, n)
		o.holdGets(t, first)
		o.holdGets(t, second)
		*first = *stood(t, m, (n+1)%len(os))
		o.holdGets(t, second)
		if after := tellAll(t, m, len(os)-1); after != before {
			t.Fatalf("P8: the map and its versions told %s, and then %s", before, after)
		}
	}
	first, second := stood(t, m, m.Commit()), m.View
	*first = *stood(t, m, 0)
	if second.Count() != 2 || m.Count() != 2 || stood(t, m, len(os)).Count() != 2 {
		t.Error("P8: a view of the last version is what the map stands as")
	}
}

// TestVersionsAgainstModels changes two maps in turn, as it comes, with versions
// in between, and holds all versions against models: one at each step, and at
// last all, those that were asked for early too.
func TestVersionsAgainstModels(t *testing.T) {
	for _, most := range []int{3, 30, far} {
		chance := numbers(11 + most)
		ms, now := []*compass.Map{compass.New(), compass.New()}, []model{{}, {}}
		versions, early := [][]model{{{}}, {{}}}, [][]*compass.View{{stood(t, ms[0], 0)}, {stood(t, ms[1], 0)}}
		for step := range 3000 {
			i := int(chance.next() % 2)
			m := ms[i]
			chance.change(t, m, now[i], most)
			if chance.next()%11 == 0 {
				n := m.Commit()
				if n != len(versions[i]) {
					t.Fatalf("P8: step %d: Commit = %d, want %d", step, n, len(versions[i]))
				}
				versions[i], early[i] = append(versions[i], maps.Clone(now[i])), append(early[i], stood(t, m, n))
			}
			n := int(chance.next() % uint64(len(versions[i])))
			p := chance.point(most)
			versions[i][n].holdAsked(t, stood(t, m, n), chance.someBox(p), p, int(chance.next()%101))
			holdNoVersion(t, m, len(versions[i]))
		}
		for i, m := range ms {
			now[i].holdGets(t, m)
			for n, o := range slices.Backward(versions[i]) {
				o.holdGets(t, stood(t, m, n))
				o.holdGets(t, early[i][n])
				o.holdAsked(t, early[i][n], wholePlane, 0, 100)
			}
		}
	}
}

// TestVersionsOfTwoMaps: neither has the other one's, and neither counts them.
func TestVersionsOfTwoMaps(t *testing.T) {
	a, b := compass.New(), compass.New()
	a.Put(5, square)
	first := stood(t, b, 0)
	if n := a.Commit(); n != 1 {
		t.Errorf("P8: Commit = %d", n)
	}
	holdNoVersion(t, b, 1)
	b.Put(5, block(50, 1))
	b.Put(6, block(50, 1))
	a.Commit()
	if n := b.Commit(); n != 1 {
		t.Errorf("P8: Commit of another map = %d", n)
	}
	a.Drop(5)
	a.Commit()
	holdVersions(t, a, []model{{}, {5: square}, {5: square}, {}})
	holdVersions(t, b, []model{{}, {5: block(50, 1), 6: block(50, 1)}})
	model{}.holdGets(t, first)
}

// TestViewsTellTheSameForGood asks each view everything, when it is new and
// behind each later change and version, the newest ones first.
func TestViewsTellTheSameForGood(t *testing.T) {
	chance := numbers(12)
	m, o := put(t, someShapes()), someShapes()
	views, told := []*compass.View{stood(t, m, 0)}, []string{tell(stood(t, m, 0))}
	for range 25 {
		for range 4 {
			chance.change(t, m, o, 30)
		}
		v := stood(t, m, m.Commit())
		views, told = append(views, v), append(told, tell(v))
		if told[len(told)-1] != tell(m) {
			t.Fatalf("P8: a new version tells %s, its map %s", told[len(told)-1], tell(m))
		}
		for n, v := range slices.Backward(views) {
			if got := tell(v); got != told[n] {
				t.Fatalf("P10: version %d told %s, and then %s", n, told[n], got)
			}
			if got := tell(stood(t, m, n)); got != told[n] {
				t.Fatalf("P8: version %d told %s, asked for again %s", n, told[n], got)
			}
		}
	}
}

// TestTurnedShapesOfVersions holds each version against the one ahead of it,
// between which all shapes were turned.
func TestTurnedShapesOfVersions(t *testing.T) {
	chance := numbers(13)
	for _, turn := range []api.Turn{{Scale: 1, Shift: 7}, {Scale: 1i}, {Scale: -1, Shift: 5 - 5i}, {Scale: 2 - 3i, Shift: 1i}, {Scale: -64 + 64i}, {Shift: 9}} {
		o := model{}
		for id := range 50 {
			o[id*20] = chance.points(3+id%6, 6)
		}
		m := put(t, o)
		first := stood(t, m, m.Commit())
		for id := range o {
			if e := m.Turn(id, turn); e != api.OK {
				t.Fatalf("P7: Turn(%d) = %d", id, e)
			}
		}
		second := stood(t, m, m.Commit())
		holdTurned(t, turn, first, second)
	}
}

// holdTurned: a second view has the shapes of the first one, turned.
func holdTurned(t *testing.T, turn api.Turn, first, second *compass.View) {
	t.Helper()
	all, _ := first.Window(wholePlane)
	if l, e := second.Window(wholePlane); !slices.Equal(l, all) || e != api.OK || len(l) != second.Count() {
		t.Fatalf("P10: the whole plane meets %v, %d, want %v", l, e, all)
	}
	square := int(real(turn.Scale)*real(turn.Scale) + imag(turn.Scale)*imag(turn.Scale))
	for _, id := range all {
		shape, _ := first.Get(id)
		turned, _ := second.Get(id)
		area, _ := compass.Twice(shape)
		if got, _ := compass.Twice(turned); got != square*area {
			t.Errorf("P10: turned by %v, an area of %d becomes %d", turn, area, got)
		}
	}
	if turn.Scale == 0 {
		return
	}
	for _, p := range pointsOf(api.Box{-7 - 7i, 7 + 7i}) {
		hit, _ := first.Hits(p)
		if l, e := second.Hits(turn.Scale*p + turn.Shift); !slices.Equal(l, hit) || e != api.OK {
			t.Errorf("P10: turned by %v, %v hits %v, %d; it hit %v", turn, p, l, e, hit)
		}
	}
}

// TestVersionsShareWhatDidNotChange: of a full map, a change and a version take
// much less than to copy as much as where all shapes are.
func TestVersionsShareWhatDidNotChange(t *testing.T) {
	const rounds, pointer = 500, 8
	m := compass.New()
	for id := range 1000 {
		m.Put(id, spiral(32))
	}
	var before, after runtime.MemStats
	runtime.ReadMemStats(&before)
	for i := range rounds {
		m.Drop(i)
		m.Commit()
		m.Put(i, square)
		m.Commit()
		m.Commit()
	}
	runtime.ReadMemStats(&after)
	if each := (after.TotalAlloc - before.TotalAlloc) / rounds; each > 1000*pointer/2 {
		t.Errorf("two changes and three versions take %d bytes", each)
	}
	for n := range 3*rounds + 1 {
		if v, want := stood(t, m, n), 1000-n%3%2; n > 0 && v.Count() != want {
			t.Fatalf("P8: version %d has %d shapes, want %d", n, v.Count(), want)
		}
	}
}

// noVersions: what is no version of a map whose last one is that.
func noVersions(last int) []int {
	return []int{
		-1, -2, -last, -last - 1, last + 1, last + 2, 2*last + 1, 999, 1000, math.MaxInt, math.MaxInt - 1, math.MinInt, math.MinInt + 1,
		math.MaxInt32, math.MaxInt32 + 1, 1 << 32, 1<<32 + 1, 1<<32 + last, 1 << 62, -1 << 32, -1<<62 + 1,
	}
}

func TestWrongVersions(t *testing.T) {
	m, os := grown(t)
	last := len(os) - 1
	before := tellAll(t, m, last)
	for _, n := range noVersions(last) {
		holdNoVersion(t, m, n)
		if after := tellAll(t, m, last); after != before {
			t.Fatalf("P1: behind At(%d) the map told %s, and then %s", n, before, after)
		}
	}
	if n := m.Commit(); n != last+1 {
		t.Errorf("P8: behind wrong versions Commit = %d, want %d", n, last+1)
	}
	for _, n := range []int{-1, 1, 2, math.MaxInt, math.MinInt} {
		holdNoVersion(t, compass.New(), n)
	}
}

// TestAHeldViewOfAMapStays: the view of how a map stood is one too, which tells
// the same for good when the map has another one.
func TestAHeldViewOfAMapStays(t *testing.T) {
	m := put(t, someShapes())
	for name, change := range map[string]func() api.Errno{
		"Put":  func() api.Errno { return m.Put(1, square) },
		"Turn": func() api.Errno { return m.Turn(31, api.Turn{Scale: 1i}) },
		"Drop": func() api.Errno { return m.Drop(5) },
	} {
		held, before := m.View, tell(m)
		if e := change(); e != api.OK || tell(m) == before {
			t.Fatalf("P7: %s = %d", name, e)
		}
		if got := tell(held); got != before {
			t.Errorf("P10: behind %s a view of the map that is held told %s, and then %s", name, before, got)
		}
	}
}
