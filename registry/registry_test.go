package registry

import (
	"fmt"
	"math/rand"
	"reflect"
	"slices"
	"testing"

	"archivum/api"
	"archivum/copies"
	"archivum/disposal"
	"archivum/verdict"
)

const forever = api.Forever

func pick[T any](r *rand.Rand, l ...T) T { return l[r.Intn(len(l))] }

// ev is an event without an ID.
func ev(day, kind int, texts []string, numbers ...int) api.Event {
	return api.Event{Day: day, Kind: kind, Numbers: numbers, Texts: texts}
}

func words(l ...string) []string { return l }

// numbered gives events their IDs.
func numbered(l []api.Event) []api.Event {
	for i := range l {
		l[i].ID = 2*i + 1
	}
	return l
}

// same reports whether two values are the same; nil lists and empty ones are.
func same(a, b any) bool { return fmt.Sprintf("%+v", a) == fmt.Sprintf("%+v", b) }

func isZero(x api.Registry) bool { return same(x, api.Registry{}) }

func copyOf(l []api.Event) []api.Event {
	return copies.Each(l, func(e *api.Event) { e.Numbers, e.Texts = slices.Clone(e.Numbers), slices.Clone(e.Texts) })
}

// memory returns where the lists of a value lie.
func memory(v reflect.Value) [][2]uintptr {
	var l [][2]uintptr
	switch v.Kind() {
	case reflect.Slice:
		if v.Cap() > 0 {
			l = append(l, [2]uintptr{v.Pointer(), v.Pointer() + uintptr(v.Cap())*v.Type().Elem().Size()})
		}
		for i := range v.Len() {
			l = append(l, memory(v.Index(i))...)
		}
	case reflect.Struct:
		for i := range v.NumField() {
			l = append(l, memory(v.Field(i))...)
		}
	}
	return l
}

// apart checks that no two lists of some values lie at the same place.
func apart(t *testing.T, values ...any) {
	t.Helper()
	var l [][2]uintptr
	for _, x := range values {
		l = append(l, memory(reflect.ValueOf(x))...)
	}
	slices.SortFunc(l, func(a, b [2]uintptr) int { return int(a[0]) - int(b[0]) })
	for i := 1; i < len(l); i++ {
		if l[i][0] < l[i-1][1] {
			t.Error("memory is shared")
			return
		}
	}
}

// lists shows the lists of a registry.
func lists(x *api.Registry, show func(l reflect.Value)) {
	v := reflect.ValueOf(x).Elem()
	for i := range v.NumField() {
		if v.Field(i).Kind() == reflect.Slice {
			show(v.Field(i))
		}
	}
}

// roomy returns a registry whose lists have room behind them.
func roomy(x api.Registry) api.Registry {
	lists(&x, func(l reflect.Value) {
		room := reflect.MakeSlice(l.Type(), l.Len(), l.Len()+2)
		reflect.Copy(room, l)
		l.Set(room)
	})
	return x
}

// isEmptyBehind reports whether nothing was written behind the lists of a registry.
func isEmptyBehind(x api.Registry) bool {
	empty := true
	lists(&x, func(l reflect.Value) {
		for i := l.Len(); i < l.Cap(); i++ {
			empty = empty && l.Slice(0, l.Cap()).Index(i).IsZero()
		}
	})
	return empty
}

// stage is an event, and what it changes.
type stage struct {
	e      api.Event
	change func(x *api.Registry)
}

// story has events of all kinds.
func story() []stage {
	mills := api.Office{ID: 1, Name: "Mills", In: api.Span{From: 0, Until: forever}}
	works := api.Office{ID: 2, Name: "Works", In: api.Span{From: 20, Until: 90}}
	first := api.Plan{Version: 1, In: api.Span{From: 0, Until: forever}, Classes: []api.Class{{Code: "1", Title: "Files"}, {Code: "1.1", Title: "Letters"}, {Code: "2", Title: "Maps"}}}
	second := api.Plan{Version: 2, In: api.Span{From: 30, Until: 99}, Classes: []api.Class{{Code: "1", Title: "Files"}, {Code: "3", Title: "Plans"}}, Moved: []api.Moved{{From: "1.1", To: "1"}, {From: "2", To: "3"}}}
	l := []stage{
		{ev(0, 1, words("Mills"), 1, 0, forever), func(x *api.Registry) { x.Offices = append(x.Offices, mills) }},
		{ev(0, 1, words("Works"), 2, 20, 90), func(x *api.Registry) { x.Offices = append(x.Offices, works) }},
		{ev(0, 3, words("1", "Files", "1.1", "Letters", "2", "Maps"), 0, forever, 3, 0), func(x *api.Registry) { x.Plans = append(x.Plans, first) }},
		{ev(1, 11, words("Ames"), 1, 1, 2, forever), func(x *api.Registry) {
			x.Clerks = append(x.Clerks, api.Clerk{ID: 1, Role: 1, Name: "Ames", In: api.Span{From: 2, Until: forever}})
		}},
		{ev(1, 11, words("Bell"), 2, 3, 1, 50), func(x *api.Registry) {
			x.Clerks = append(x.Clerks, api.Clerk{ID: 2, Role: 3, Name: "Bell", In: api.Span{From: 1, Until: 50}})
		}},
		{ev(1, 11, words("Cole"), 4, 2, 1, 50), func(x *api.Registry) {
			x.Clerks = append(x.Clerks, api.Clerk{ID: 4, Role: 2, Name: "Cole", In: api.Span{From: 1, Until: 50}})
		}},
		{ev(1, 7, words("1", "closed"), 4, 0, 0, 1, 1, forever), func(x *api.Registry) {
			x.Rules = append(x.Rules, api.Rule{ID: 4, Class: "1", Trigger: "closed", Action: api.ActionDestroy, In: api.Span{From: 1, Until: forever}})
		}},
		{ev(2, 7, words("2", "paid"), 6, 15, 1, 2, 3, 80), func(x *api.Registry) {
			x.Rules = append(x.Rules, api.Rule{ID: 6, Class: "2", Trigger: "paid", Years: 15, YearEnd: true, Action: api.ActionTransfer, In: api.Span{From: 3, Until: 80}})
		}},
	}
	for i, id := range []int{7, 9, 11} {
		l = append(l, stage{ev(5, 4, words("1.1", "Letters"), id, 1, 40*i), func(x *api.Registry) {
			x.Files = append(x.Files, api.File{ID: id, Office: 1, Opened: 5, Closed: forever, Class: "1.1", Title: "Letters", Points: 40 * i})
		}})
	}
	l = append(l, stage{ev(6, 5, words("audited"), 7, 3, 4), func(x *api.Registry) {
		x.Files[0].Notes = []api.Note{{Name: "audited", Day: api.Dating{First: 3, Last: 4}, Recorded: 6}}
	}})
	for i, id := range []int{7, 9, 11} {
		l = append(l, stage{ev(10, 6, nil, id), func(x *api.Registry) { x.Files[i].Closed = 10 }})
	}
	l = append(l,
		stage{ev(11, 2, nil, 1, 20, 2), func(x *api.Registry) { x.Offices[0].In.Until, x.Offices[0].Next = 20, []int{2} }},
		stage{ev(11, 2, nil, 2, 80), func(x *api.Registry) { x.Offices[1].In.Until = 80 }},
		stage{ev(11, 3, words("1", "Files", "3", "Plans", "1.1", "1", "2", "3"), 30, 99, 2, 2), func(x *api.Registry) {
			x.Plans[0].In.Until = 30
			x.Plans = append(x.Plans, second)
		}},
		stage{ev(11, 9, words("", "Inquiry"), 3, 1, 7, 12, 40), func(x *api.Registry) {
			x.Holds = append(x.Holds, api.Hold{ID: 3, Kind: api.HoldFile, Of: 7, Reason: "Inquiry", In: api.Span{From: 12, Until: 40}})
		}},
		stage{ev(12, 9, words("2", "Law"), 5, 3, 0, 12, forever), func(x *api.Registry) {
			x.Holds = append(x.Holds, api.Hold{ID: 5, Kind: api.HoldClass, Class: "2", Reason: "Law", In: api.Span{From: 12, Until: forever}})
		}},
		stage{ev(12, 10, nil, 3, 15), func(x *api.Registry) { x.Holds[0].In.Until = 15 }},
		stage{ev(12, 8, nil, 4, 60), func(x *api.Registry) { x.Rules[0].In.Until = 60 }},
		stage{ev(12, 12, words("1", ""), 5, 4, 60, 0), func(x *api.Registry) {
			x.Selections = append(x.Selections, api.Selection{Sample: 5, Day: 12, Files: []int{11}})
		}},
		stage{ev(13, 13, nil, 1, 1, 7), func(x *api.Registry) {
			x.Proposals = append(x.Proposals, api.Proposal{ID: 1, Day: 13, Clerk: 1, Files: []int{7}, Withdrawn: forever})
		}},
		stage{ev(13, 13, nil, 4, 2, 9, 11), func(x *api.Registry) {
			x.Proposals = append(x.Proposals, api.Proposal{ID: 4, Day: 13, Clerk: 2, Files: []int{9, 11}, Withdrawn: forever})
		}},
		stage{ev(13, 14, nil, 1, 2), func(x *api.Registry) {
			x.Approvals = append(x.Approvals, api.Approval{Proposal: 1, Day: 13, Clerk: 2})
		}},
		stage{ev(14, 14, nil, 1, 4), func(x *api.Registry) {
			x.Approvals = append(x.Approvals, api.Approval{Proposal: 1, Day: 14, Clerk: 4})
		}},
		stage{ev(14, 15, nil, 4), func(x *api.Registry) { x.Proposals[1].Withdrawn = 14 }},
		stage{ev(15, 16, nil, 1), func(x *api.Registry) {
			c := api.Certificate{Number: 1, Proposal: 1, Day: 15, Files: []int{7}, Before: string(make([]byte, 32))}
			c.Digest, _ = disposal.Digest(c)
			x.Certificates = append(x.Certificates, c)
		}},
		stage{ev(16, 17, nil, 11), func(x *api.Registry) {
			x.Departures = append(x.Departures, api.Departure{File: 11, Day: 16})
		}},
	)
	for i := range l {
		l[i].e.ID = 2*i + 1
	}
	return l
}

// told returns the events of the story.
func told() []api.Event {
	var l []api.Event
	for _, s := range story() {
		l = append(l, s.e)
	}
	return l
}

// P15.1: New, and what each kind of events does.
func TestApply(t *testing.T) {
	x := New()
	if !isZero(x) || Check(x) != api.OK {
		t.Fatal(x)
	}
	kinds := map[int]bool{}
	want := api.Registry{}
	for _, s := range story() {
		x = roomy(x)
		was, event := copies.Registry(x), copyOf([]api.Event{s.e})[0]
		y, e := Apply(x, s.e)
		want = copies.Registry(want)
		s.change(&want)
		want.Changed = s.e.Day
		if e != api.OK || !same(y, want) || Check(y) != api.OK {
			t.Fatalf("%d %d\n%+v\n%+v", s.e.Kind, e, y, want)
		}
		if !same(x, was) || !same(s.e, event) || !isEmptyBehind(x) {
			t.Error("an argument was changed", s.e.Kind)
		}
		apart(t, x, s.e, y)
		x = y
		kinds[s.e.Kind] = true
	}
	if len(kinds) != 17 {
		t.Error(len(kinds), "kinds")
	}
}

// ready returns the registry of the story ahead of its first event of a kind, and
// this event.
func ready(kind int) (api.Registry, api.Event) {
	l := told()
	i := slices.IndexFunc(l, func(e api.Event) bool { return e.Kind == kind })
	x, _, _ := Fold(l[:i])
	return x, l[i]
}

func refused(t *testing.T, x api.Registry, e api.Event, want api.Errno) {
	t.Helper()
	was := copies.Registry(x)
	if y, got := Apply(x, e); got != want || !isZero(y) || !same(x, was) {
		t.Errorf("%+v: %d", e, got)
	}
}

// P15.1: the form of events.
func TestForm(t *testing.T) {
	for kind := 1; kind <= 17; kind++ {
		x, e := ready(kind)
		wrong := func(change func(e *api.Event)) {
			t.Helper()
			y := copyOf([]api.Event{e})[0]
			change(&y)
			refused(t, x, y, api.ErrArg)
			// What does not have its form is not in order either.
			later := copies.Registry(x)
			later.Changed = api.MaxDay
			refused(t, later, y, api.ErrArg)
		}
		for _, n := range []int{0, -1, api.MaxID + 1} {
			wrong(func(e *api.Event) { e.ID = n })
		}
		for _, n := range []int{-1, api.MaxDay + 1} {
			wrong(func(e *api.Event) { e.Day = n })
		}
		wrong(func(e *api.Event) { e.Texts = append(e.Texts, "1") })
		if len(e.Texts) > 0 {
			wrong(func(e *api.Event) { e.Texts = e.Texts[1:] })
			wrong(func(e *api.Event) { e.Texts = nil })
		}
		wrong(func(e *api.Event) { e.Numbers = nil })
		if kind == 2 || kind == 13 {
			wrong(func(e *api.Event) { e.Numbers = e.Numbers[:1] })
		} else {
			wrong(func(e *api.Event) { e.Numbers = e.Numbers[1:] })
			wrong(func(e *api.Event) { e.Numbers = append(e.Numbers, 1) })
		}
		e.ID = api.MaxID
		if _, got := Apply(x, e); got != api.OK {
			t.Error(kind, got)
		}
	}
	for _, kind := range []int{0, -1, 18, 19, 20, 40, 1 << 62} {
		for n := range 7 {
			for m := range 3 {
				e := ev(0, kind, make([]string, m), make([]int, n)...)
				e.ID = 1
				refused(t, New(), e, api.ErrArg)
			}
		}
	}
}

// P15.1: stars, pairs of texts, and the number for YearEnd.
func TestFormOfLists(t *testing.T) {
	x, e := ready(13)
	e.Numbers = []int{1, 1}
	refused(t, x, e, api.ErrEmpty)
	e.Numbers = []int{1, 1, 7, 9, 11}
	if y, got := Apply(x, e); got != api.OK || !slices.Equal(y.Proposals[0].Files, []int{7, 9, 11}) {
		t.Error(got)
	}
	x, e = ready(3)
	const huge = 1 << 62
	texts := e.Texts
	for _, n := range [][]int{{-1, 4}, {4, -1}, {2, 0}, {0, 2}, {4, 0}, {3, 1}, {6, 0}, {6, -3}, {-3, 6}, {huge, huge + 3}, {huge + 3, huge}, {-huge, huge + 3}, {1<<63 - 1, 4}, {2*huge - 1, 2*huge - 1}, {-2 * huge, 3}, {3, -2 * huge}} {
		e.Numbers = []int{0, forever, n[0], n[1]}
		refused(t, x, e, api.ErrArg)
	}
	e.Numbers, e.Texts = []int{0, forever, 0, 0}, nil
	if y, got := Apply(x, e); got != api.OK || len(y.Plans) != 1 || len(y.Plans[0].Classes) != 0 {
		t.Error(got)
	}
	// With three texts no numbers fit.
	e.Texts = texts[:3]
	for n := range 4 {
		for m := range 4 {
			e.Numbers = []int{0, forever, n, m}
			refused(t, x, e, api.ErrArg)
		}
	}
	// The pairs ahead are classes, the others are Moved.
	e.Texts, e.Numbers = texts, []int{0, forever, 2, 1}
	refused(t, x, e, api.ErrArg)
	e.Texts, e.Numbers = texts[:4], []int{0, forever, 2, 0}
	if y, got := Apply(x, e); got != api.OK || len(y.Plans[0].Classes) != 2 {
		t.Error(got)
	}
	x, e = ready(7)
	for n, want := range map[int]api.Errno{-1: api.ErrArg, 0: api.OK, 1: api.OK, 2: api.ErrArg, 1 << 62: api.ErrArg} {
		e.Numbers = []int{4, 0, n, 1, 1, forever}
		if y, got := Apply(x, e); got != want || want == api.OK && y.Rules[0].YearEnd != (n == 1) {
			t.Error(n, got)
		}
	}
}

// P15.1: an event is not ahead of the last one, and what it changes is not ahead
// of it.
func TestDays(t *testing.T) {
	place := map[int]int{1: 1, 2: 1, 3: 0, 7: 4, 8: 1, 9: 3, 10: 1, 11: 2}
	for kind := 1; kind <= 17; kind++ {
		x, e := ready(kind)
		x.Changed = e.Day
		if _, got := Apply(x, e); got != api.OK {
			t.Error(kind, got)
		}
		x.Changed = e.Day + 1
		refused(t, x, e, api.ErrOrder)
		x.Changed = e.Day
		at, ok := place[kind]
		if !ok {
			continue
		}
		e.Numbers = slices.Clone(e.Numbers)
		// The day of the event is the last one that is early enough.
		x, e.Day = withDay(x, e.Day+2)
		e.Numbers[at] = e.Day - 1
		refused(t, x, e, api.ErrOrder)
		e.Numbers[at] = -1
		refused(t, x, e, api.ErrOrder)
		e.Numbers[at] = e.Day
		if kind == 2 {
			e.Numbers = e.Numbers[:2]
		}
		if _, got := Apply(x, e); got != api.OK {
			t.Error(kind, got)
		}
	}
}

func withDay(x api.Registry, day int) (api.Registry, int) {
	x.Changed = day
	return x, day
}

// P15.1: a further plan version begins behind the begin of the version before,
// and not behind its end.
func TestGap(t *testing.T) {
	l := numbered([]api.Event{ev(5, 3, words("1", "Files"), 10, 20, 1, 0)})
	x, _, _ := Fold(l)
	for from, want := range map[int]api.Errno{4: api.ErrOrder, 5: api.ErrGap, 9: api.ErrGap, 10: api.ErrGap, 11: api.OK, 19: api.OK, 20: api.OK, 21: api.ErrGap, forever: api.ErrGap, forever + 1: api.ErrGap} {
		e := ev(5, 3, words("1", "Files"), from, 40, 1, 0)
		e.ID = 9
		y, got := Apply(x, e)
		if got != want || (want == api.OK) == isZero(y) {
			t.Error(from, got)
		}
		if want == api.OK && (y.Plans[0].In != api.Span{From: 10, Until: from} || y.Plans[1].In != api.Span{From: from, Until: 40} || y.Plans[1].Version != 2) {
			t.Error(y.Plans)
		}
		// It goes ahead of what is wrong with the version.
		if want != api.OK {
			e.Texts = words("x", "")
			refused(t, x, e, want)
		}
	}
	// The first version begins where it likes.
	e := ev(5, 3, words("1", "Files"), api.MaxDay, forever, 1, 0)
	e.ID = 1
	if _, got := Apply(New(), e); got != api.OK {
		t.Error(got)
	}
	e.Numbers = []int{forever, forever, 1, 0}
	refused(t, New(), e, api.ErrRange)
}

// P15.1: the errors of the functions that are named, and their order.
func TestErrors(t *testing.T) {
	l := told()
	end, _, _ := Fold(l)
	open, _ := ready(6)
	held, _ := ready(16)
	for _, c := range []struct {
		x     api.Registry
		e     api.Event
		wants api.Errno
	}{
		{open, ev(10, 2, nil, 3, 20), api.ErrNotFound},
		{open, ev(10, 2, nil, 2, 20), api.ErrRange},
		{open, ev(10, 2, nil, 1, 20, 2, 2), api.ErrTwice},
		{open, ev(10, 2, nil, 1, 21, 2), api.ErrMismatch},
		{open, ev(10, 2, nil, 1, 20, 7), api.ErrNotFound},
		{open, ev(10, 5, words("paid"), 8, 1, 1), api.ErrNotFound},
		{open, ev(10, 5, words("opened"), 7, 1, 1), api.ErrName},
		{open, ev(10, 5, words("paid"), 7, 2, 1), api.ErrRange},
		{open, ev(10, 6, nil, 8), api.ErrNotFound},
		{end, ev(16, 6, nil, 7), api.ErrState},
		{open, ev(10, 8, nil, 5, 20), api.ErrNotFound},
		{open, ev(10, 8, nil, 6, 81), api.ErrRange},
		{end, ev(16, 10, nil, 4, 20), api.ErrNotFound},
		{end, ev(16, 10, nil, 3, 16), api.ErrRange},
		{open, ev(10, 12, words("1", ""), 1, 5, 0, 0), api.ErrRange},
		{open, ev(10, 12, words("x", ""), 1, 4, 0, 0), api.ErrSyntax},
		{open, ev(10, 12, words("1", "x"), 1, 4, 0, 0), api.ErrArg},
		{end, ev(16, 13, nil, 5, 3, 9), api.ErrNotFound},
		{end, ev(16, 13, nil, 5, 1), api.ErrEmpty},
		{end, ev(16, 13, nil, 5, 1, 8), api.ErrNotFound},
		{end, ev(16, 13, nil, 5, 1, 11, 9), api.ErrOrder},
		{end, ev(16, 13, nil, 5, 1, 7), api.ErrTwice},
		{end, ev(16, 13, nil, 4, 1, 9), api.ErrOrder},
		{end, ev(16, 14, nil, 5, 1), api.ErrNotFound},
		{end, ev(16, 14, nil, 4, 1), api.ErrState},
		{held, ev(15, 14, nil, 1, 3), api.ErrNotFound},
		{held, ev(15, 14, nil, 1, 1), api.ErrDenied},
		{held, ev(15, 14, nil, 1, 2), api.ErrTwice},
		{held, ev(15, 15, nil, 2), api.ErrNotFound},
		{held, ev(15, 15, nil, 4), api.ErrState},
		{end, ev(16, 15, nil, 1), api.ErrState},
		{held, ev(15, 16, nil, 2), api.ErrNotFound},
		{end, ev(16, 16, nil, 1), api.ErrState},
		{held, ev(15, 16, nil, 4), api.ErrState},
		{end, ev(16, 17, nil, 8), api.ErrNotFound},
		{end, ev(16, 17, nil, 7), api.ErrHeld},
		{end, ev(16, 17, nil, 9), api.ErrHeld},
		{end, ev(16, 17, nil, 11), api.ErrHeld},
		{open, ev(10, 17, nil, 7), api.ErrHeld},
	} {
		c.e.ID = 99
		refused(t, c.x, c.e, c.wants)
		// An event that is too early goes ahead of all that.
		late := copies.Registry(c.x)
		late.Changed = c.e.Day + 1
		refused(t, late, c.e, api.ErrOrder)
	}
}

// P15.1: a hold forbids a destruction and a transfer up to its end.
func TestHeld(t *testing.T) {
	x, e := ready(16)
	x.Holds[0].In.Until = 16
	refused(t, x, e, api.ErrHeld)
	x, e = ready(17)
	x.Holds = append(x.Holds, api.Hold{ID: 9, Kind: api.HoldFile, Of: 11, Reason: "Law", In: api.Span{From: 0, Until: 17}})
	refused(t, x, e, api.ErrHeld)
	e.Day = 17
	if _, got := Apply(x, e); got != api.OK {
		t.Error(got)
	}
	// On the due day it is kept.
	x, e = ready(17)
	x.Files[2].Closed = 16
	x.Selections = []api.Selection{{Sample: 5, Day: 16, Files: []int{11}}}
	refused(t, x, e, api.ErrHeld)
}

// P15.1: the faults of the registry that would result.
func TestResults(t *testing.T) {
	x, _ := ready(6)
	for _, c := range []struct {
		e     api.Event
		wants api.Errno
	}{
		{ev(10, 1, words("Roads"), 3, 10, 10), api.ErrRange},
		{ev(10, 1, words("Roads"), 0, 10, 20), api.ErrRange},
		{ev(10, 1, words(""), 3, 10, 20), api.ErrName},
		{ev(10, 1, words("Roads"), 2, 10, 20), api.ErrOrder},
		{ev(10, 3, words("1", "Files"), 10, 10, 1, 0), api.ErrRange},
		{ev(10, 3, words("1.", "Files"), 10, 20, 1, 0), api.ErrSyntax},
		{ev(10, 3, words("1", "Files", "1.1", "1"), 10, 20, 1, 1), api.ErrNoPlan},
		{ev(10, 3, words("1", "Files", "2", "3"), 10, 20, 1, 1), api.ErrNotFound},
		{ev(10, 4, words("1", "Letters"), 11, 1, 0), api.ErrOrder},
		{ev(10, 4, words("1", "Letters"), 12, 2, 0), api.ErrNotFound},
		{ev(10, 4, words("1", "Letters"), 12, 1, 101), api.ErrRange},
		{ev(10, 4, words("3", "Letters"), 12, 1, 0), api.ErrNoPlan},
		{ev(10, 4, words("1", " "), 12, 1, 0), api.ErrName},
		{ev(10, 7, words("1", "closed"), 6, 0, 0, 1, 10, 20), api.ErrOrder},
		{ev(10, 7, words("1", "closed"), 7, 201, 0, 1, 10, 20), api.ErrRange},
		{ev(10, 7, words("1", "closed"), 7, 0, 0, 4, 10, 20), api.ErrRange},
		{ev(10, 7, words("1", "closed"), 7, 0, 0, 3, 10, 20), api.ErrArg},
		{ev(10, 7, words("", "closed"), 7, 0, 0, 1, 10, 20), api.ErrSyntax},
		{ev(10, 7, words("1", ""), 7, 0, 0, 1, 10, 20), api.ErrName},
		{ev(10, 9, words("", "Law"), 1, 4, 7, 10, 20), api.ErrRange},
		{ev(10, 9, words("1", "Law"), 1, 2, 7, 10, 20), api.ErrArg},
		{ev(10, 9, words("x", "Law"), 1, 3, 0, 10, 20), api.ErrSyntax},
		{ev(10, 11, words("Dunn"), 4, 1, 10, 20), api.ErrOrder},
		{ev(10, 11, words("Dunn"), 5, 4, 10, 20), api.ErrRange},
		{ev(10, 11, words(" Dunn"), 5, 3, 10, 20), api.ErrName},
		{ev(10, 11, words("Dunn"), 5, 3, 10, 9), api.ErrRange},
		{ev(10, 12, words("1", ""), 1, 4, 0, 0), api.OK},
	} {
		c.e.ID = 99
		if c.wants == api.OK {
			if _, got := Apply(x, c.e); got != api.OK {
				t.Error(c.e, got)
			}
			continue
		}
		refused(t, x, c.e, c.wants)
		// What begins too early goes ahead of other faults.
		if at, ok := map[int]int{1: 1, 3: 0, 7: 4, 9: 3, 11: 2}[c.e.Kind]; ok {
			c.e.Numbers[at] = 9
			refused(t, x, c.e, api.ErrOrder)
		}
	}
	// A version from the day on which a file was opened changes its class.
	e := ev(5, 3, words("2", "Maps", "1", "2", "1.1", "2"), 5, 20, 1, 2)
	e.ID = 99
	x.Changed = 5
	refused(t, x, e, api.ErrNoPlan)
}

// P15.1: what is added behind the limits of the lists.
func TestLimits(t *testing.T) {
	x := New()
	add := func(most int, made func(i int) api.Event, change func(x *api.Registry)) {
		t.Helper()
		for i := range most {
			e := made(i)
			e.ID = 1
			y, got := Apply(x, e)
			if got != api.OK {
				t.Fatal(e.Kind, i, got)
			}
			x = y
		}
		e := made(most)
		e.ID = 1
		refused(t, x, e, api.ErrTooLarge)
		if change != nil {
			change(&x)
		}
	}
	add(api.MaxOffices, func(i int) api.Event { return ev(0, 1, words("Mills"), i+1, 0, forever) }, func(x *api.Registry) { x.Offices = x.Offices[:1] })
	add(api.MaxPlans, func(i int) api.Event { return ev(0, 3, words("1", "Files"), i, forever, 1, 0) }, func(x *api.Registry) { x.Plans[15].In.Until = 16 })
	add(api.MaxClerks, func(i int) api.Event { return ev(0, 11, words("Ames"), i+1, 1, 0, forever) }, nil)
	add(api.MaxFiles, func(i int) api.Event { return ev(0, 4, words("1", "Letters"), i+1, 1, 0) }, nil)
	add(api.MaxRules, func(i int) api.Event { return ev(0, 7, words("1", "closed"), i+1, 0, 0, 1, 0, forever) }, nil)
	add(api.MaxHolds, func(i int) api.Event { return ev(0, 9, words("", "Law"), i+1, 1, 1, 0, forever) }, nil)
	e := ev(0, 5, words("paid"), 1, 1, 1)
	e.ID = 1
	for i := range api.MaxNotes + 1 {
		y, got := Apply(x, e)
		if i == api.MaxNotes && (got != api.ErrFull || !isZero(y)) || i < api.MaxNotes && got != api.OK {
			t.Fatal(i, got)
		}
		if got == api.OK {
			x = y
		}
	}
	// A class more than there can be.
	var texts []string
	for i := range api.MaxClasses + 1 {
		texts = append(texts, fmt.Sprint(i+1), "Files")
	}
	e = ev(0, 3, texts, 0, forever, api.MaxClasses+1, 0)
	e.ID = 1
	refused(t, New(), e, api.ErrTooLarge)
	e.Texts, e.Numbers[2] = texts[2:], api.MaxClasses
	if y, got := Apply(New(), e); got != api.OK || len(y.Plans[0].Classes) != api.MaxClasses {
		t.Error(got)
	}
}

// P15.1: the lists without limits of their own, and the order of an error of the
// function and a fault of the result.
func TestMaxList(t *testing.T) {
	x, _, _ := Fold(told()[:8])
	for range api.MaxList {
		x.Selections = append(x.Selections, api.Selection{Sample: 1, Day: 3})
	}
	x.Changed = 3
	e := ev(5, 12, words("1", ""), 1, 4, 0, 0)
	e.ID = 1
	refused(t, x, e, api.ErrTooLarge)
	e.Numbers[1] = 5
	refused(t, x, e, api.ErrRange)
	x.Selections = x.Selections[1:]
	refused(t, x, e, api.ErrRange)
	e.Numbers[1] = 4
	if y, got := Apply(x, e); got != api.OK || len(y.Selections) != api.MaxList {
		t.Error(got)
	}
}

// P15.1: the faults of registries, in their order.
func TestCheck(t *testing.T) {
	faults := []struct {
		e      api.Errno
		change func(x *api.Registry)
	}{
		{api.ErrName, func(x *api.Registry) { x.Offices[0].Name = "" }},
		{api.ErrGap, func(x *api.Registry) { x.Plans[1].In.From = 31 }},
		{api.ErrOrder, func(x *api.Registry) { x.Files[1].ID = 7 }},
		{api.ErrSyntax, func(x *api.Registry) { x.Rules[1].Class = "" }},
		{api.ErrArg, func(x *api.Registry) { x.Holds[1].Of = 2 }},
		{api.ErrNotFound, func(x *api.Registry) { x.Selections[0].Files[0] = 8 }},
		{api.ErrTwice, func(x *api.Registry) { x.Departures[0].File = 7 }},
		{api.ErrName, func(x *api.Registry) { x.Clerks[0].Name = "" }},
		{api.ErrEmpty, func(x *api.Registry) { x.Proposals[1].Files = nil }},
		{api.ErrDenied, func(x *api.Registry) { x.Approvals[0].Clerk = 1 }},
		{api.ErrProof, func(x *api.Registry) { x.Certificates[0].Day = 16 }},
		{api.ErrRange, func(x *api.Registry) { x.Changed = -1 }},
		{api.ErrRange, func(x *api.Registry) { x.Changed = api.MaxDay + 1 }},
	}
	l := told()
	good, _, _ := Fold(l)
	check := func(x api.Registry, want api.Errno) {
		t.Helper()
		was := copies.Registry(x)
		if e := Check(x); e != want || !same(x, was) {
			t.Error(e, want)
		}
		if want == api.OK {
			return
		}
		// No event counts, whatever it is.
		for _, e := range l {
			refused(t, x, e, api.ErrArg)
			e.Day = api.MaxDay
			refused(t, x, e, api.ErrArg)
		}
	}
	for i, a := range faults {
		x := copies.Registry(good)
		a.change(&x)
		check(x, a.e)
		for _, b := range faults[i+1:] {
			y := copies.Registry(x)
			b.change(&y)
			check(y, a.e)
		}
	}
	// Changed is behind nothing but events, so that each day is one.
	for _, day := range []int{0, 3, 16, api.MaxDay} {
		good.Changed = day
		check(good, api.OK)
	}
}

// guess returns an event that could follow in a registry.
func guess(r *rand.Rand, x api.Registry, id int) api.Event {
	e := api.Event{ID: id, Day: x.Changed + pick(r, 0, 0, 0, 1, 1, 2, 7), Kind: pick(r, 1, 2, 3, 4, 4, 5, 6, 6, 6, 7, 8, 9, 10, 11, 12, 13, 13, 14, 14, 14, 14, 15, 16, 16, 16, 16, 17, 17, 17)}
	day := e.Day
	office, file := r.Intn(len(x.Offices)+1)+1, pick(r, 1, 2, 3, 4, 5, 6)
	class := pick(r, "1", "1.1", "1.2", "2")
	from := day + pick(r, -1, 0, 0, 0, 1, 4)
	until := pick(r, forever, forever, from+1, from+9, from+30)
	next := func(n int) int { return n + pick(r, 0, 1, 1, 1, 1) }
	switch e.Kind {
	case 1:
		e.Numbers, e.Texts = []int{next(len(x.Offices)), from, until}, words("Works")
	case 2:
		e.Numbers = []int{office, day + r.Intn(9)}
		for range r.Intn(3) {
			e.Numbers = append(e.Numbers, r.Intn(len(x.Offices)+1)+1)
		}
	case 3:
		e.Numbers, e.Texts = []int{from, forever, 3, 0}, words("1", "Files", "1.1", "Letters", "2", "Maps")
		if r.Intn(2) == 0 {
			e.Numbers, e.Texts = []int{from, forever, 2, 1}, words("1", "Files", "1.2", "Maps", pick(r, "2", "1.1"), "1.2")
		}
	case 4:
		e.Numbers, e.Texts = []int{next(len(x.Files)), office, r.Intn(101)}, words(class, "Letters")
	case 5:
		e.Numbers, e.Texts = []int{file, day, day + r.Intn(5)}, words(pick(r, "paid", "audited"))
	case 6:
		e.Numbers = []int{file}
	case 7:
		e.Numbers = []int{next(len(x.Rules)), pick(r, 0, 0, 0, 1), r.Intn(2), pick(r, 1, 1, 1, 2, 3), from, until}
		e.Texts = words(class, pick(r, "closed", "closed", "opened", "paid"))
	case 8, 10:
		e.Numbers = []int{r.Intn(3) + 1, day + r.Intn(9)}
	case 9:
		e.Numbers, e.Texts = []int{next(len(x.Holds)), 1 + r.Intn(2), file, from, from + 1 + r.Intn(9)}, words("", "Law")
		if r.Intn(3) == 0 {
			e.Numbers[1], e.Numbers[2], e.Texts[0] = 3, 0, class
		}
	case 11:
		e.Numbers, e.Texts = []int{next(len(x.Clerks)), 1 + r.Intn(3), from, until}, words("Ames")
	case 12:
		e.Numbers, e.Texts = []int{r.Intn(9) + 1, 4, r.Intn(101), 0}, words(class, "")
	case 13:
		e.Numbers = []int{next(len(x.Proposals)), 1 + r.Intn(4), file}
		free, _ := verdict.Due(x, api.VerdictDestroy, day)
		if r.Intn(3) > 0 {
			e.Numbers = append(e.Numbers[:2], free...)
		}
	case 14:
		e.Numbers = []int{r.Intn(len(x.Proposals)+1) + 1, 1 + r.Intn(4)}
	case 15, 16:
		e.Numbers = []int{r.Intn(len(x.Proposals)+1) + 1}
	case 17:
		e.Numbers = []int{file}
		if free, _ := verdict.Due(x, api.VerdictTransfer, day); len(free) > 0 {
			e.Numbers[0] = pick(r, free...)
		}
	}
	return e
}

// way returns events that can be applied, one after the other. It shows each event
// and the registry ahead of it, the registry behind it, or the error.
func way(r *rand.Rand, count int, show func(x api.Registry, e api.Event, y api.Registry, fault api.Errno)) []api.Event {
	var l []api.Event
	x := New()
	try := func(e api.Event) {
		y, fault := Apply(x, e)
		show(x, e, y, fault)
		if fault == api.OK {
			l, x = append(l, e), y
		}
	}
	for i, e := range []api.Event{
		ev(0, 1, words("Mills"), 1, 0, forever), ev(0, 3, words("1", "Files", "1.1", "Letters", "2", "Maps"), 0, forever, 3, 0),
		ev(0, 11, words("Ames"), 1, 1, 0, forever), ev(0, 11, words("Bell"), 2, 2, 0, forever), ev(0, 11, words("Cole"), 3, 3, 0, forever), ev(0, 11, words("Dunn"), 4, 2, 0, 40),
		ev(0, 7, words("1", "closed"), 1, 0, 0, 1, 0, forever), ev(0, 7, words("2", "closed"), 2, 0, 0, 2, 0, forever),
		ev(1, 4, words("1.1", "Letters"), 1, 1, 20), ev(1, 4, words("1", "Maps"), 2, 1, 70), ev(2, 4, words("2", "Maps"), 3, 1, 50),
	} {
		e.ID = i + 1
		try(e)
	}
	for len(l) < count {
		try(guess(r, x, l[len(l)-1].ID+1))
	}
	return l
}

// P15.4: registries remain without a fault; what is destroyed or transferred had
// the verdict for it on that day, and is gone from then on.
func TestWays(t *testing.T) {
	r := rand.New(rand.NewSource(15))
	done, errors := map[int]int{}, map[api.Errno]int{}
	for range 300 {
		way(r, 50, func(x api.Registry, e api.Event, y api.Registry, fault api.Errno) {
			errors[fault]++
			if fault != api.OK {
				if !isZero(y) {
					t.Error("not zero", e)
				}
				return
			}
			done[e.Kind]++
			if Check(y) != api.OK || y.Changed != e.Day {
				t.Error(e)
			}
			kind := map[int]int{16: api.VerdictDestroy, 17: api.VerdictTransfer}[e.Kind]
			for _, f := range x.Files {
				_, was := Gone(x, f.ID)
				day, is := Gone(y, f.ID)
				if was == is {
					continue
				}
				v, _ := verdict.On(x, f.ID, e.Day)
				after, _ := verdict.On(y, f.ID, e.Day)
				if kind == 0 || v.Kind != kind || day != e.Day || after.Kind != map[int]int{16: api.VerdictGone, 17: api.VerdictMoved}[e.Kind] {
					t.Error(e, v, after)
				}
			}
		})
	}
	for kind := 1; kind <= 17; kind++ {
		if done[kind] < 20 {
			t.Error("kind", kind, done[kind])
		}
	}
	for _, e := range []api.Errno{api.ErrRange, api.ErrOrder, api.ErrNotFound, api.ErrTwice, api.ErrMismatch, api.ErrState, api.ErrDenied, api.ErrHeld, api.ErrGap, api.ErrNoPlan} {
		if errors[e] == 0 {
			t.Error("error", e)
		}
	}
}

// P15.4: what the registry of today says about the days before is what those of
// these days said, behind all events of the day.
func TestEarlier(t *testing.T) {
	r := rand.New(rand.NewSource(4))
	seen := map[int]int{}
	for range 40 {
		l := way(r, 45, func(api.Registry, api.Event, api.Registry, api.Errno) {})
		today, _, _ := Fold(l)
		for day := range today.Changed + 3 {
			then, at, e := On(l, day)
			if at != -1 || e != api.OK {
				t.Fatal(at, e)
			}
			for _, f := range today.Files {
				v, _ := verdict.On(today, f.ID, day)
				was, e := verdict.On(then, f.ID, day)
				if f.Opened > day {
					if e != api.ErrNotFound || v.Kind != api.VerdictNone {
						t.Error(v, e)
					}
					continue
				}
				if e != api.OK || !same(v, was) {
					t.Error(day, v, was, e)
				}
				seen[v.Kind]++
			}
		}
	}
	for kind := range 10 {
		if seen[kind] == 0 {
			t.Error("verdict", kind)
		}
	}
}

// P15.2: Fold applies one event after the other, On those up to a day.
func TestFold(t *testing.T) {
	if x, at, e := Fold(nil); !isZero(x) || at != -1 || e != api.OK {
		t.Error(at, e)
	}
	r := rand.New(rand.NewSource(2))
	for i := range 20 {
		l := told()
		if i > 0 {
			l = way(r, 40, func(api.Registry, api.Event, api.Registry, api.Errno) {})
		}
		was := copyOf(l)
		behind := []api.Registry{New()}
		for k, e := range l {
			x, _ := Apply(behind[k], e)
			behind = append(behind, x)
		}
		for k, x := range behind {
			y, at, e := Fold(l[:k])
			if !same(x, y) || at != -1 || e != api.OK {
				t.Error(at, e)
			}
		}
		for day := -1; day <= l[len(l)-1].Day+1; day++ {
			k := 0
			for k < len(l) && l[k].Day <= day {
				k++
			}
			x, at, e := On(l, day)
			if !same(x, behind[k]) || at != -1 || e != api.OK {
				t.Error(day, at, e)
			}
		}
		if !same(l, was) {
			t.Error("the events were changed")
		}
		x, _, _ := Fold(l)
		y, _, _ := On(l, forever)
		apart(t, l, x, y)
	}
}

// P15.2: the first event that cannot be applied.
func TestFoldErrors(t *testing.T) {
	l := told()
	for i := range l {
		for _, c := range []struct {
			change func(e *api.Event)
			wants  api.Errno
		}{
			{func(e *api.Event) { e.Kind = 18 }, api.ErrArg},
			{func(e *api.Event) { e.ID = 0 }, api.ErrOrder},
			{func(e *api.Event) { e.ID -= 2 }, api.ErrOrder},
			{func(e *api.Event) { e.ID, e.Kind, e.Day = 1, 18, -1 }, api.ErrOrder},
			{func(e *api.Event) { e.Day = -1 }, api.ErrArg},
			{func(e *api.Event) { e.Kind, e.Numbers, e.Texts = 6, []int{5}, nil }, api.ErrNotFound},
		} {
			m := copyOf(l)
			c.change(&m[i])
			wants := c.wants
			if i == 0 && wants == api.ErrOrder {
				wants = api.ErrArg
			}
			if i < len(l)-1 {
				// The first one counts.
				m[i+1].Kind = 19
			}
			if x, at, e := Fold(m); !isZero(x) || at != i || e != wants {
				t.Error(i, at, e, wants)
			}
			if x, at, e := On(m, forever); !isZero(x) || at != i || e != wants {
				t.Error(i, at, e, wants)
			}
			if h, e := History(m, 7); len(h) != 0 || e != wants {
				t.Error(i, e, wants)
			}
		}
	}
	// An ID that is the next one is enough.
	for i := range l {
		l[i].ID = i + 1
	}
	if _, at, e := Fold(l); at != -1 || e != api.OK {
		t.Error(at, e)
	}
	l[4].Day = 0
	if x, at, e := Fold(l); !isZero(x) || at != 4 || e != api.ErrOrder {
		t.Error(at, e)
	}
}

// P15.2: On does not look at the first later event, nor at those behind it.
func TestOnLater(t *testing.T) {
	l := told()
	for i := range l {
		if i > 0 && l[i].Day == l[i-1].Day {
			continue
		}
		m := copyOf(l)
		m[i].ID, m[i].Kind = -1, 0
		for k := i + 1; k < len(m); k++ {
			m[k] = api.Event{ID: -1, Day: -1, Kind: -1}
		}
		want, _, _ := Fold(l[:i])
		if x, at, e := On(m, m[i].Day-1); !same(x, want) || at != -1 || e != api.OK {
			t.Error(i, at, e)
		}
		if x, at, e := On(m, m[i].Day); !isZero(x) || at != i || e == api.OK {
			t.Error(i, at, e)
		}
	}
	// A day ahead of all days has no event, but for one that is wrong.
	for day, wants := range map[int]int{-1: -1, -2: -1, -1 << 63: -1} {
		if x, at, e := On(l, day); !isZero(x) || at != wants || e != api.OK {
			t.Error(day, at, e)
		}
	}
	l[0].Day = -5
	if _, at, e := On(l, -4); at != 0 || e != api.ErrArg {
		t.Error(at, e)
	}
	if _, at, e := On(l, -6); at != -1 || e != api.OK {
		t.Error(at, e)
	}
}

// P15.2: there are no more than 1024 events.
func TestFoldMost(t *testing.T) {
	var l []api.Event
	for i := range api.MaxEvents + 1 {
		l = append(l, api.Event{ID: i + 1, Day: i, Kind: 12, Numbers: []int{1, 4, 0, 0}, Texts: words("1", "")})
	}
	if x, at, e := Fold(l[:api.MaxEvents]); len(x.Selections) != api.MaxEvents || at != -1 || e != api.OK {
		t.Error(at, e)
	}
	if x, at, e := On(l[:api.MaxEvents], 2); len(x.Selections) != 3 || at != -1 || e != api.OK {
		t.Error(at, e)
	}
	if h, e := History(l[:api.MaxEvents], 1); len(h) != 0 || e != api.OK {
		t.Error(e)
	}
	l[0].Kind = 0
	if x, at, e := Fold(l); !isZero(x) || at != -1 || e != api.ErrTooLarge {
		t.Error(at, e)
	}
	for _, day := range []int{-1, 0, 3, forever} {
		if x, at, e := On(l, day); !isZero(x) || at != -1 || e != api.ErrTooLarge {
			t.Error(at, e)
		}
	}
	if h, e := History(l, 1); len(h) != 0 || e != api.ErrTooLarge {
		t.Error(e)
	}
}

// P15.3: History by its definition.
func TestHistory(t *testing.T) {
	r := rand.New(rand.NewSource(3))
	holds := 0
	for i := range 20 {
		l := told()
		if i > 0 {
			l = way(r, 40, func(api.Registry, api.Event, api.Registry, api.Errno) {})
		}
		was := copyOf(l)
		for _, id := range []int{1, 2, 3, 4, 5, 6, 7, 9, 11, 0, -1} {
			var want []api.Verdict
			for k, e := range l {
				x, _, _ := Fold(l[:k+1])
				if !slices.ContainsFunc(x.Files, func(f api.File) bool { return f.ID == id }) {
					continue
				}
				v, _ := verdict.On(x, id, e.Day)
				want = append(want, v)
				holds += len(v.Holds)
			}
			got, e := History(l, id)
			if e != api.OK || !same(got, want) || !same(l, was) {
				t.Error(id, e)
			}
			apart(t, got, l)
		}
	}
	if holds == 0 {
		t.Error("no holds")
	}
}

// P15.3: the kinds of the verdicts on a file of the story.
func TestHistoryStory(t *testing.T) {
	h, e := History(told(), 7)
	var kinds []int
	for _, v := range h {
		kinds = append(kinds, v.Kind)
	}
	// Open up to its closing, kept on that day, free on the next one, held, free
	// from day 15 on, and destroyed.
	want := []int{3, 3, 3, 3, 6, 6, 6, 8, 8, 8, 8, 7, 7, 7, 7, 7, 7, 7, 7, 7, 1, 1}
	if e != api.OK || !slices.Equal(kinds, want) {
		t.Error(e, kinds)
	}
	if !slices.Equal(h[11].Holds, []int{3}) || h[11].Day != 12 || h[11].File != 7 || h[0].Day != 5 {
		t.Error(h)
	}
}

// P15.3: Gone, for any registry.
func TestGone(t *testing.T) {
	x := api.Registry{
		Certificates: []api.Certificate{{Day: 9, Files: []int{3, 5}}, {Day: 4, Files: []int{7, 5, 3}}, {Day: -6, Files: []int{-1}}},
		Departures:   []api.Departure{{File: 5, Day: 2}, {File: 8, Day: 12}, {File: 8, Day: 11}, {File: 0, Day: 0}},
	}
	was := copies.Registry(x)
	for id, want := range map[int]int{3: 9, 5: 9, 7: 4, -1: -6, 8: 12, 0: 0} {
		if day, ok := Gone(x, id); day != want || !ok {
			t.Error(id, day, ok)
		}
	}
	for _, id := range []int{1, 2, 4, 9, api.MaxID} {
		if day, ok := Gone(x, id); day != 0 || ok {
			t.Error(id, day, ok)
		}
	}
	if day, ok := Gone(New(), 3); day != 0 || ok {
		t.Error(day, ok)
	}
	if !same(x, was) {
		t.Error("the registry was changed")
	}
}

// P15.2: the example of the chapter.
func TestExample(t *testing.T) {
	x, at, e := Fold([]api.Event{
		{ID: 1, Day: 0, Kind: 1, Numbers: []int{1, 0, 1048576}, Texts: words("Mills")},
		{ID: 2, Day: 0, Kind: 3, Numbers: []int{0, 1048576, 1, 0}, Texts: words("1", "Files")},
		{ID: 3, Day: 5, Kind: 4, Numbers: []int{7, 1, 0}, Texts: words("1", "Letters")},
	})
	if at != -1 || e != api.OK || len(x.Files) != 1 || x.Changed != 5 || !same(x.Files[0], api.File{ID: 7, Office: 1, Opened: 5, Closed: forever, Class: "1", Title: "Letters"}) {
		t.Error(x, at, e)
	}
}
