package timeline

import (
	"math"
	"math/rand"
	"slices"
	"testing"

	"archivum/api"
)

// list returns pieces of {from, until, value}.
func list(rows ...[3]int) []api.Piece {
	var out []api.Piece
	for _, x := range rows {
		out = append(out, api.Piece{In: api.Span{From: x[0], Until: x[1]}, Value: x[2]})
	}
	return out
}

// apart returns n pieces of 3 days with the value 1, each with 3 days behind it
// that have none.
func apart(n int) []api.Piece {
	var out []api.Piece
	for i := range n {
		out = append(out, api.Piece{In: api.Span{From: 6 * i, Until: 6*i + 3}, Value: 1})
	}
	return out
}

// horizon is how many days the timelines of the model have.
const horizon = 14

// model has for each day its value, or none, which is -1.
type model [horizon]int

func modelOf(l []api.Piece) model {
	var m model
	for d := range horizon {
		m[d] = -1
		for _, p := range l {
			if p.In.From <= d && d < p.In.Until {
				m[d] = p.Value
			}
		}
	}
	return m
}

// pieces returns the timeline in order of a model.
func (m model) pieces() []api.Piece {
	var out []api.Piece
	for d, v := range m {
		switch {
		case v == -1:
		case d > 0 && m[d-1] == v:
			out[len(out)-1].In.Until = d + 1
		default:
			out = append(out, api.Piece{In: api.Span{From: d, Until: d + 1}, Value: v})
		}
	}
	return out
}

// randomModel has long and short pieces with few values, so that they often join.
func randomModel(random *rand.Rand) model {
	var m model
	v := -1
	for d := range m {
		if random.Intn(3) > 0 {
			v = random.Intn(4) - 1
		}
		m[d] = v
	}
	return m
}

// guarded returns a list with a piece of another list behind its end, and a
// function that says whether any of this has changed.
func guarded(l []api.Piece) ([]api.Piece, func() bool) {
	all := append(slices.Clone(l), list([3]int{91, 92, 93}, [3]int{94, 95, 96}, [3]int{97, 98, 99})...)
	was := slices.Clone(all)
	return all[:len(l)], func() bool { return !slices.Equal(all, was) }
}

// spoil changes a result, which must not change the arguments.
func spoil(l []api.Piece) {
	for i := range l {
		l[i] = api.Piece{In: api.Span{From: -7, Until: -7}, Value: -7}
	}
}

// P4.1: which lists are in order, and which error is the first.
func TestCheck(t *testing.T) {
	for i, l := range [][]api.Piece{
		nil, {},
		list([3]int{0, api.Forever, 0}),
		list([3]int{0, 1, 5}, [3]int{1, 2, 6}, [3]int{2, 3, 5}),
		list([3]int{0, 1, 5}, [3]int{2, 3, 5}),
		list([3]int{api.MaxDay, api.Forever, math.MinInt}),
		apart(api.MaxList),
	} {
		if e := Check(l); e != api.OK {
			t.Error(i, e)
		}
	}
	for i, x := range []struct {
		l []api.Piece
		e api.Errno
	}{
		{make([]api.Piece, api.MaxList+1), api.ErrTooLarge}, {apart(api.MaxList + 1), api.ErrTooLarge},
		{list([3]int{-1, 3, 1}), api.ErrRange}, {list([3]int{3, 3, 1}), api.ErrRange}, {list([3]int{3, 2, 1}), api.ErrRange},
		{list([3]int{0, api.Forever + 1, 1}), api.ErrRange}, {list([3]int{api.Forever, api.Forever, 1}), api.ErrRange},
		{list([3]int{math.MinInt, math.MaxInt, 1}), api.ErrRange}, {list([3]int{math.MaxInt, math.MinInt, 1}), api.ErrRange},
		{list([3]int{5, 9, 1}, [3]int{8, 10, 2}), api.ErrOrder}, {list([3]int{5, 9, 1}, [3]int{0, 5, 2}), api.ErrOrder}, {list([3]int{5, 9, 1}, [3]int{5, 9, 1}), api.ErrOrder},
		{list([3]int{5, 9, 1}, [3]int{9, 10, 1}), api.ErrOrder},
		// The first wrong piece decides, and in it the span.
		{list([3]int{5, 9, 1}, [3]int{8, 10, 2}, [3]int{3, 3, 1}), api.ErrOrder},
		{list([3]int{5, 9, 1}, [3]int{9, 10, 1}, [3]int{3, 3, 1}), api.ErrOrder},
		{list([3]int{5, 9, 1}, [3]int{3, 3, 1}, [3]int{3, 4, 1}), api.ErrRange},
		{list([3]int{5, 9, 1}, [3]int{9, 9, 1}), api.ErrRange}, {list([3]int{5, 9, 1}, [3]int{9, 8, 1}), api.ErrRange},
		{list([3]int{-1, 3, 1}, [3]int{2, 5, 2}), api.ErrRange},
	} {
		if e := Check(x.l); e != x.e {
			t.Error(i, e)
		}
	}
}

// P4.1: the value on a day, of any list.
func TestAt(t *testing.T) {
	l := list([3]int{10, 20, 1}, [3]int{20, 30, 0}, [3]int{40, api.Forever, -5})
	for i, x := range []struct {
		day, value int
		ok         bool
	}{
		{math.MinInt, 0, false}, {-1, 0, false}, {0, 0, false}, {9, 0, false},
		{10, 1, true}, {19, 1, true}, {20, 0, true}, {29, 0, true}, {30, 0, false}, {39, 0, false},
		{40, -5, true}, {api.MaxDay, -5, true}, {api.Forever, 0, false}, {math.MaxInt, 0, false},
	} {
		if v, ok := At(l, x.day); v != x.value || ok != x.ok {
			t.Error(i, v, ok)
		}
	}
	wild := list([3]int{8, 4, 1}, [3]int{20, 30, 2}, [3]int{3, 25, 3}, [3]int{3, 26, 4})
	for i, x := range []struct {
		day, value int
		ok         bool
	}{{2, 0, false}, {3, 3, true}, {5, 3, true}, {20, 2, true}, {24, 2, true}, {19, 3, true}, {30, 0, false}} {
		if v, ok := At(wild, x.day); v != x.value || ok != x.ok {
			t.Error(i, v, ok)
		}
	}
	long := append(make([]api.Piece, 2*api.MaxList), list([3]int{3, 5, 7})...)
	if v, ok := At(long, 4); v != 7 || !ok {
		t.Error(v, ok)
	}
	if v, ok := At(nil, 0); v != 0 || ok {
		t.Error(v, ok)
	}
}

// P4.2 and P4.5: the values behind a change are those of the model, in order.
func TestSetAndClear(t *testing.T) {
	random := rand.New(rand.NewSource(4))
	for range 20000 {
		m := randomModel(random)
		l, changed := guarded(m.pieces())
		from := random.Intn(horizon)
		in := api.Span{From: from, Until: from + 1 + random.Intn(horizon-from)}
		set, clear, value := m, m, random.Intn(3)
		for d := in.From; d < in.Until; d++ {
			set[d], clear[d] = value, -1
		}
		got, e := Set(l, in, value)
		if e != api.OK || !slices.Equal(got, set.pieces()) {
			t.Fatal("Set", l, in, value, got, e)
		}
		spoil(got)
		got, e = Clear(l, in)
		if e != api.OK || !slices.Equal(got, clear.pieces()) {
			t.Fatal("Clear", l, in, got, e)
		}
		spoil(got)
		if changed() {
			t.Fatal("changed", l, in)
		}
	}
}

// P4.5: a span that is set twice has the second value, and one that is set to
// what it has, or cleared where it has nothing, is as before.
func TestTwice(t *testing.T) {
	random := rand.New(rand.NewSource(5))
	for range 2000 {
		l := randomModel(random).pieces()
		from := random.Intn(horizon)
		in := api.Span{From: from, Until: from + 1 + random.Intn(horizon-from)}
		once, _ := Set(l, in, 9)
		twice, e := Set(once, in, 2)
		want, f := Set(l, in, 2)
		if e != api.OK || f != api.OK || !slices.Equal(twice, want) {
			t.Fatal(l, in, twice, want, e, f)
		}
		again, e := Set(twice, in, 2)
		if e != api.OK || !slices.Equal(again, twice) {
			t.Fatal(l, in, again, e)
		}
		clear, _ := Clear(l, in)
		from9, e := Clear(once, in)
		if e != api.OK || !slices.Equal(from9, clear) {
			t.Fatal(l, in, from9, e)
		}
	}
}

// P4.2: the examples of the chapter, and the ends of all days.
func TestSetExamples(t *testing.T) {
	l := list([3]int{10, 20, 1})
	for i, x := range []struct {
		l     []api.Piece
		in    api.Span
		value int
		want  []api.Piece
	}{
		{l, api.Span{From: 15, Until: 25}, 2, list([3]int{10, 15, 1}, [3]int{15, 25, 2})},
		{l, api.Span{From: 15, Until: 25}, 1, list([3]int{10, 25, 1})},
		{nil, api.Span{From: 0, Until: api.Forever}, 0, list([3]int{0, api.Forever, 0})},
		{nil, api.Span{From: api.MaxDay, Until: api.Forever}, math.MaxInt, list([3]int{api.MaxDay, api.Forever, math.MaxInt})},
		{list([3]int{0, api.Forever, 0}), api.Span{From: 5, Until: 6}, -1, list([3]int{0, 5, 0}, [3]int{5, 6, -1}, [3]int{6, api.Forever, 0})},
		{list([3]int{0, 5, 0}, [3]int{6, api.Forever, 0}), api.Span{From: 5, Until: 6}, 0, list([3]int{0, api.Forever, 0})},
	} {
		if got, e := Set(x.l, x.in, x.value); e != api.OK || !slices.Equal(got, x.want) {
			t.Error(i, got, e)
		}
	}
	if got, e := Clear(l, api.Span{From: 12, Until: 14}); e != api.OK || !slices.Equal(got, list([3]int{10, 12, 1}, [3]int{14, 20, 1})) {
		t.Error(got, e)
	}
	if got, e := Clear(nil, api.Span{From: 0, Until: api.Forever}); e != api.OK || len(got) != 0 {
		t.Error(got, e)
	}
}

// P4.2: the errors in their order, together with which there is no timeline.
func TestChangeErrors(t *testing.T) {
	good := api.Span{From: 5, Until: 6}
	wrong := []api.Span{{}, {From: 5, Until: 5}, {From: 6, Until: 5}, {From: -1, Until: 5}, {From: 0, Until: api.Forever + 1}, {From: math.MinInt, Until: math.MaxInt}, {From: math.MaxInt, Until: math.MinInt}}
	check := func(l []api.Piece, in api.Span, want api.Errno) {
		t.Helper()
		if got, e := Set(l, in, 1); len(got) != 0 || e != want {
			t.Error("Set", in, len(got), e)
		}
		if got, e := Clear(l, in); len(got) != 0 || e != want {
			t.Error("Clear", in, len(got), e)
		}
	}
	for _, in := range wrong {
		check(list([3]int{1, 9, 1}), in, api.ErrRange)
		check(list([3]int{1, 3, 1}, [3]int{2, 4, 2}), in, api.ErrOrder)
		check(make([]api.Piece, api.MaxList+1), in, api.ErrTooLarge)
		check(apart(api.MaxList), in, api.ErrRange)
	}
	check(list([3]int{4, 4, 1}), good, api.ErrRange)
	check(list([3]int{1, 3, 1}, [3]int{3, 4, 1}), good, api.ErrOrder)
	check(make([]api.Piece, api.MaxList+1), good, api.ErrTooLarge)
}

// P4.2: what counts is how many pieces the result would have.
func TestChangeLimit(t *testing.T) {
	l := apart(api.MaxList)
	for i, x := range []struct {
		in    api.Span
		value int
		n     int
	}{
		{api.Span{From: 1, Until: 2}, 1, api.MaxList},
		{api.Span{From: 3, Until: 4}, 1, api.MaxList},
		{api.Span{From: 3, Until: 6}, 1, api.MaxList - 1},
		{api.Span{From: 0, Until: 3}, 2, api.MaxList},
		{api.Span{From: 0, Until: 2}, 2, 0},
		{api.Span{From: 1, Until: 2}, 2, 0},
		{api.Span{From: 3, Until: 4}, 2, 0},
		{api.Span{From: 4, Until: 5}, 1, 0},
		{api.Span{From: 1, Until: 7}, 2, 0},
		{api.Span{From: 0, Until: 7}, 2, api.MaxList},
		{api.Span{From: 6 * api.MaxList, Until: api.Forever}, 1, 0},
		{api.Span{From: 0, Until: api.Forever}, 1, 1},
	} {
		got, e := Set(l, x.in, x.value)
		if x.n == 0 && (e != api.ErrTooLarge || len(got) != 0) || x.n > 0 && (e != api.OK || len(got) != x.n || Check(got) != api.OK) {
			t.Error(i, len(got), e)
		}
	}
	if got, e := Clear(l, api.Span{From: 1, Until: 2}); len(got) != 0 || e != api.ErrTooLarge {
		t.Error(len(got), e)
	}
	if got, e := Clear(l, api.Span{From: 1, Until: 3}); len(got) != api.MaxList || e != api.OK {
		t.Error(len(got), e)
	}
}

// P4.3: changes, and one timeline over another one, by the model.
func TestChangesAndOver(t *testing.T) {
	random := rand.New(rand.NewSource(6))
	for range 20000 {
		m, n := randomModel(random), randomModel(random)
		a, changedA := guarded(m.pieces())
		b, changedB := guarded(n.pieces())
		var differ, over model
		for d := range horizon {
			differ[d], over[d] = -1, n[d]
			if m[d] != n[d] {
				differ[d] = 0
			}
			if n[d] == -1 {
				over[d] = m[d]
			}
		}
		var want []api.Span
		for _, p := range differ.pieces() {
			want = append(want, p.In)
		}
		spans, e := Changes(a, b)
		if e != api.OK || !slices.Equal(spans, want) {
			t.Fatal("Changes", a, b, spans, e)
		}
		got, e := Over(a, b)
		if e != api.OK || !slices.Equal(got, over.pieces()) {
			t.Fatal("Over", a, b, got, e)
		}
		spoil(got)
		if changedA() || changedB() {
			t.Fatal("changed", a, b)
		}
	}
}

// P4.3: edges: equal values, the value 0 against none, and empty timelines.
func TestChangesEdges(t *testing.T) {
	all := list([3]int{0, api.Forever, 0})
	for i, x := range []struct {
		a, b []api.Piece
		want []api.Span
	}{
		{nil, nil, nil}, {all, all, nil},
		{nil, all, []api.Span{{From: 0, Until: api.Forever}}},
		{all, nil, []api.Span{{From: 0, Until: api.Forever}}},
		{list([3]int{1, 3, 1}, [3]int{3, 5, 2}), list([3]int{1, 3, 2}, [3]int{3, 5, 1}), []api.Span{{From: 1, Until: 5}}},
		{list([3]int{1, 3, 1}), list([3]int{3, 5, 1}), []api.Span{{From: 1, Until: 5}}},
		{list([3]int{1, 3, 1}), list([3]int{4, 5, 1}), []api.Span{{From: 1, Until: 3}, {From: 4, Until: 5}}},
	} {
		if got, e := Changes(x.a, x.b); e != api.OK || !slices.Equal(got, x.want) {
			t.Error(i, got, e)
		}
	}
	l := list([3]int{1, 3, 1})
	for i, x := range [][3][]api.Piece{{nil, nil, nil}, {l, nil, l}, {nil, l, l}, {all, l, list([3]int{0, 1, 0}, [3]int{1, 3, 1}, [3]int{3, api.Forever, 0})}, {l, all, all}} {
		got, e := Over(x[0], x[1])
		if e != api.OK || !slices.Equal(got, x[2]) {
			t.Error(i, got, e)
		}
		spoil(got)
	}
	if !slices.Equal(l, list([3]int{1, 3, 1})) || !slices.Equal(all, list([3]int{0, api.Forever, 0})) {
		t.Error("shared", l, all)
	}
}

// P4.5: of timelines that do not overlap either one can be on top.
func TestOverApart(t *testing.T) {
	random := rand.New(rand.NewSource(7))
	for range 2000 {
		m, n := randomModel(random), randomModel(random)
		for d := range horizon {
			if n[d] != -1 {
				m[d] = -1
			}
		}
		ab, e := Over(m.pieces(), n.pieces())
		ba, f := Over(n.pieces(), m.pieces())
		if e != api.OK || f != api.OK || !slices.Equal(ab, ba) {
			t.Fatal(m, n, ab, ba, e, f)
		}
	}
}

// P4.3: the errors in their order, and results of too many elements.
func TestPairErrors(t *testing.T) {
	order := list([3]int{1, 3, 1}, [3]int{3, 4, 1})
	wide := make([]api.Piece, api.MaxList+1)
	empty := list([3]int{3, 3, 1})
	full := apart(api.MaxList)
	// next has a piece behind the last one of full, gaps fills all its gaps.
	next := list([3]int{6 * api.MaxList, 6*api.MaxList + 1, 1})
	var gaps []api.Piece
	for i := range api.MaxList {
		gaps = append(gaps, api.Piece{In: api.Span{From: 6*i + 3, Until: 6*i + 6}, Value: 1})
	}
	for i, x := range []struct {
		a, b          []api.Piece
		changes, over api.Errno
	}{
		{order, nil, api.ErrOrder, api.ErrOrder}, {nil, order, api.ErrOrder, api.ErrOrder},
		{order, wide, api.ErrOrder, api.ErrOrder}, {wide, order, api.ErrTooLarge, api.ErrTooLarge},
		{empty, order, api.ErrRange, api.ErrRange}, {order, empty, api.ErrOrder, api.ErrOrder},
		{full, empty, api.ErrRange, api.ErrRange},
		{full, next, api.ErrTooLarge, api.ErrTooLarge}, {next, full, api.ErrTooLarge, api.ErrTooLarge},
		{full, nil, api.OK, api.OK}, {full, full, api.OK, api.OK}, {full, gaps, api.OK, api.OK},
		{full, list([3]int{0, api.Forever, 1}), api.OK, api.OK},
		{full, list([3]int{1, 2, 2}), api.OK, api.ErrTooLarge},
		{full, list([3]int{1, 2, 1}, [3]int{4, 5, 1}), api.ErrTooLarge, api.ErrTooLarge},
	} {
		if got, e := Changes(x.a, x.b); e != x.changes || e != api.OK && len(got) != 0 {
			t.Error("Changes", i, len(got), e)
		}
		if got, e := Over(x.a, x.b); e != x.over || e != api.OK && len(got) != 0 {
			t.Error("Over", i, len(got), e)
		}
	}
	if got, e := Over(full, gaps); e != api.OK || !slices.Equal(got, list([3]int{0, 6 * api.MaxList, 1})) {
		t.Error(len(got), e)
	}
}

// P4.4: the first day with a value, and how many days have it, by the model.
func TestFirstAndDays(t *testing.T) {
	random := rand.New(rand.NewSource(8))
	for range 5000 {
		m := randomModel(random)
		l := m.pieces()
		for value := range 4 {
			count := 0
			for from := horizon; from >= -3; from-- {
				day, found := 0, false
				for d := horizon - 1; d >= max(from, 0); d-- {
					if m[d] == value {
						day, found = d, true
					}
				}
				if got, ok := First(l, from, value); got != day || ok != found {
					t.Fatal("First", l, from, value, got, ok)
				}
			}
			for _, v := range m {
				if v == value {
					count++
				}
			}
			if got := Days(l, value); got != count {
				t.Fatal("Days", l, value, got)
			}
		}
	}
}

// P4.4: edges, and lists that are not in order.
func TestFirstAndDaysEdges(t *testing.T) {
	l := list([3]int{0, 3, 4}, [3]int{9, api.Forever, 4})
	for i, x := range []struct {
		from, value, day int
		ok               bool
	}{
		{math.MinInt, 4, 0, true}, {-1, 4, 0, true}, {0, 4, 0, true}, {2, 4, 2, true}, {3, 4, 9, true}, {9, 4, 9, true},
		{api.MaxDay, 4, api.MaxDay, true}, {api.Forever, 4, 0, false}, {math.MaxInt, 4, 0, false}, {0, 0, 0, false}, {0, 5, 0, false},
	} {
		if d, ok := First(l, x.from, x.value); d != x.day || ok != x.ok {
			t.Error(i, d, ok)
		}
	}
	if n := Days(l, 4); n != api.Forever-6 {
		t.Error(n)
	}
	for i, wrong := range [][]api.Piece{
		list([3]int{1, 3, 1}, [3]int{3, 4, 1}), list([3]int{1, 3, 1}, [3]int{2, 4, 2}), list([3]int{1, 3, 1}, [3]int{5, 5, 1}),
		list([3]int{-1, 3, 1}), list([3]int{0, api.Forever + 1, 1}), apart(api.MaxList + 1), nil,
	} {
		if d, ok := First(wrong, 0, 1); d != 0 || ok {
			t.Error(i, d, ok)
		}
		if n := Days(wrong, 1); n != 0 {
			t.Error(i, n)
		}
	}
}
