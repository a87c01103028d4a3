package file

import (
	"math"
	"math/rand"
	"reflect"
	"slices"
	"strings"
	"testing"

	"archivum/api"
	"archivum/office"
	"archivum/plan"
)

// offices returns three offices: the second one is the heir of the first one,
// and the third one exists from day 50 on.
func offices() []api.Office {
	return []api.Office{
		{ID: 1, Name: "Mills", In: api.Span{From: 0, Until: 20}, Next: []int{2}},
		{ID: 2, Name: "Works", In: api.Span{From: 20, Until: api.Forever}},
		{ID: 5, Name: "Late", In: api.Span{From: 50, Until: 60}},
	}
}

// plans returns three versions: 1.1 becomes 1.2 and then 1, and 2 becomes 3.
func plans() []api.Plan {
	return []api.Plan{
		{Version: 1, In: api.Span{From: 2, Until: 10}, Classes: classes("1", "1.1", "2")},
		{Version: 2, In: api.Span{From: 10, Until: 20}, Classes: classes("1", "1.2", "2"), Moved: []api.Moved{{From: "1.1", To: "1.2"}}},
		{Version: 3, In: api.Span{From: 20, Until: 90}, Classes: classes("1", "3"), Moved: []api.Moved{{From: "2", To: "3"}}},
	}
}

func classes(codes ...string) []api.Class {
	var l []api.Class
	for _, c := range codes {
		l = append(l, api.Class{Code: c, Title: "Class"})
	}
	return l
}

// note returns a note for the days from first to last.
func note(name string, first, last, recorded int) api.Note {
	return api.Note{Name: name, Day: api.Dating{First: first, Last: last}, Recorded: recorded}
}

// example returns the file of the chapter's example, with an office and a class.
func example() api.File {
	return api.File{ID: 7, Office: 1, Opened: 5, Closed: 30, Class: "1.1", Title: "Letters", Points: 40, Notes: []api.Note{
		note("audited", 20, 25, 26), note("audited", 22, 22, 40),
	}}
}

// rich returns a file with many notes.
func rich(id int) api.File {
	f := example()
	f.ID = id
	f.Notes = []api.Note{note("a", 1, 2, 5), note("b", 3, 3, 6), note("a", 0, api.MaxDay, 6), note("c", 9, 9, 8), note("d", 1, 1, 9)}
	return f
}

// clone returns a list that shares no memory with another one.
func clone(l []api.File) []api.File {
	out := slices.Clone(l)
	for i := range out {
		out[i].Notes = slices.Clone(out[i].Notes)
	}
	return out
}

// same says whether two lists are equal, with nil for an empty list.
func same(a, b []api.File) bool {
	return slices.EqualFunc(a, b, func(x, y api.File) bool {
		if !slices.Equal(x.Notes, y.Notes) {
			return false
		}
		x.Notes, y.Notes = nil, nil
		return reflect.DeepEqual(x, y)
	})
}

// random returns files without a fault.
func random(r *rand.Rand) []api.File {
	var l []api.File
	id := 0
	for range 1 + r.Intn(4) {
		id += 1 + r.Intn(3)
		f := api.File{ID: id, Office: 1, Opened: 2 + r.Intn(18), Closed: api.Forever, Title: "File", Points: r.Intn(101)}
		version := plans()[f.Opened/10]
		f.Class = version.Classes[r.Intn(3)].Code
		if r.Intn(2) == 0 {
			f.Closed = f.Opened + r.Intn(10)
		}
		recorded := f.Opened
		for range r.Intn(6) {
			recorded += r.Intn(4)
			f.Notes = append(f.Notes, randomNote(r, recorded))
		}
		l = append(l, f)
	}
	return l
}

func randomNote(r *rand.Rand, recorded int) api.Note {
	first := r.Intn(4)
	return note([]string{"paid", "audited"}[r.Intn(2)], first, first+r.Intn(4), recorded)
}

// triggers are names of triggers: of those in random files, and of others.
func triggers() []string { return []string{"opened", "closed", "paid", "audited", "x", "", "Opened"} }

// days are all days on which something can happen in random files, and others.
func days() []int {
	l := []int{math.MinInt, api.MaxDay, api.Forever, math.MaxInt}
	for d := -1; d <= 45; d++ {
		l = append(l, d)
	}
	slices.Sort(l)
	return l
}

// P8.1: which lists have no fault.
func TestCheckGood(t *testing.T) {
	var most []api.File
	for id := 1; id <= api.MaxFiles; id++ {
		most = append(most, rich(id))
	}
	lists := [][]api.File{nil, {}, {example()}, {rich(1), rich(3), example()}, most}
	for _, change := range []func(f *api.File){
		func(f *api.File) { f.ID = 1 },
		func(f *api.File) { f.ID = api.MaxID },
		func(f *api.File) { f.Closed = api.Forever },
		func(f *api.File) { f.Closed = f.Opened },
		func(f *api.File) { f.Closed = api.MaxDay },
		func(f *api.File) { f.Points = 0 },
		func(f *api.File) { f.Points = 100 },
		func(f *api.File) { f.Title = strings.Repeat("x", api.MaxName) },
		func(f *api.File) { f.Notes = nil },
		func(f *api.File) { f.Notes = slices.Repeat([]api.Note{note("x", 0, 0, 5)}, api.MaxNotes) },
		func(f *api.File) { f.Notes = []api.Note{note("x", api.MaxDay, api.MaxDay, api.MaxDay)} },
		func(f *api.File) { f.Notes = []api.Note{note("Opened", 1, 1, 5), note("closed 2", 1, 1, 5)} },
		// The first and the last days of offices and versions.
		func(f *api.File) { f.Opened = 2 },
		func(f *api.File) { f.Opened = 9; f.Notes = nil },
		func(f *api.File) { f.Opened, f.Class = 10, "1.2" },
		func(f *api.File) { f.Opened, f.Class = 19, "2" },
		func(f *api.File) { f.Opened, f.Class, f.Office = 20, "3", 2 },
		func(f *api.File) { f.Opened, f.Closed, f.Class, f.Office, f.Notes = 50, 50, "3", 5, nil },
		func(f *api.File) { f.Opened, f.Closed, f.Class, f.Office, f.Notes = 59, 60, "1", 5, nil },
		func(f *api.File) { f.Opened, f.Closed, f.Class, f.Office, f.Notes = 89, api.MaxDay, "1", 2, nil },
	} {
		f := example()
		change(&f)
		lists = append(lists, []api.File{f})
	}
	for i, l := range lists {
		was := clone(l)
		if at, e := Check(offices(), plans(), l); at != -1 || e != api.OK || !same(l, was) {
			t.Error(i, at, e)
		}
	}
}

// change is a change that makes a fault.
type change struct {
	e     api.Errno
	apply func(f *api.File)
}

// faults are changes of a rich file behind one with the ID 3, in the order of
// the table.
func faults() []change {
	var l []change
	add := func(e api.Errno, all ...func(f *api.File)) {
		for _, apply := range all {
			l = append(l, change{e, apply})
		}
	}
	for _, n := range []int{0, -1, math.MinInt, api.MaxID + 1, math.MaxInt} {
		add(api.ErrRange, func(f *api.File) { f.ID = n })
	}
	for _, n := range []int{-1, math.MinInt, api.MaxDay + 1, math.MaxInt} {
		add(api.ErrRange, func(f *api.File) { f.Opened = n })
	}
	for _, n := range []int{4, 0, -1, math.MinInt, api.Forever + 1, math.MaxInt} {
		add(api.ErrRange, func(f *api.File) { f.Closed = n })
	}
	for _, n := range []int{-1, 101, math.MinInt, math.MaxInt} {
		add(api.ErrRange, func(f *api.File) { f.Points = n })
	}
	add(api.ErrRange, func(f *api.File) { f.Opened, f.Closed = api.Forever, api.Forever })
	add(api.ErrOrder, func(f *api.File) { f.ID = 3 }, func(f *api.File) { f.ID = 1 })
	for _, s := range []string{"", " x", "x ", "x  y", "x\n", "\x7f", strings.Repeat("x", api.MaxName+1)} {
		add(api.ErrName, func(f *api.File) { f.Title = s })
	}
	// The office 2 is the heir of the office 1, but was not there yet.
	for _, n := range []int{0, -1, 2, 3, 4, 5, 6, math.MaxInt} {
		add(api.ErrNotFound, func(f *api.File) { f.Office = n })
	}
	add(api.ErrNotFound,
		func(f *api.File) { f.Opened, f.Class = 20, "3" },
		func(f *api.File) { f.Opened, f.Class, f.Office, f.Closed = 49, "3", 5, 90 },
		func(f *api.File) { f.Opened, f.Class, f.Office, f.Closed = 60, "3", 5, 90 })
	for _, s := range []string{"", "x", "3", "1.2", "1.1.1"} {
		add(api.ErrNoPlan, func(f *api.File) { f.Class = s })
	}
	add(api.ErrNoPlan,
		func(f *api.File) { f.Opened = 1 },
		func(f *api.File) { f.Opened = 10 },
		func(f *api.File) { f.Opened, f.Closed, f.Office = 90, 90, 2 })
	add(api.ErrTooLarge,
		func(f *api.File) { f.Notes = make([]api.Note, api.MaxNotes+1) },
		func(f *api.File) { f.Notes = make([]api.Note, 5000) })
	for _, s := range []string{"", "x  y", " x", "x\x00", "opened", "closed", strings.Repeat("x", api.MaxName+1)} {
		add(api.ErrName, func(f *api.File) { f.Notes[0].Name = s }, func(f *api.File) { f.Notes[4].Name = s })
	}
	for _, x := range []api.Dating{{First: -1, Last: 3}, {First: 3, Last: 2}, {First: 1, Last: api.Forever}, {First: math.MaxInt, Last: math.MinInt}} {
		add(api.ErrRange, func(f *api.File) { f.Notes[0].Day = x }, func(f *api.File) { f.Notes[4].Day = x })
	}
	for _, n := range []int{4, 0, -1, math.MinInt, api.Forever, math.MaxInt} {
		add(api.ErrRange, func(f *api.File) { f.Notes[0].Recorded = n }, func(f *api.File) { f.Notes[4].Recorded = n })
	}
	add(api.ErrOrder,
		func(f *api.File) { f.Notes[0].Recorded = 7 },
		func(f *api.File) { f.Notes[2].Recorded = 5 },
		func(f *api.File) { f.Notes[4].Recorded = 7 })
	return l
}

// P8.1: each fault is found at its file, and of several files with a fault the
// first one counts.
func TestCheckFaults(t *testing.T) {
	for i, x := range faults() {
		l := []api.File{rich(3), rich(7), rich(api.MaxID)}
		x.apply(&l[1])
		was := clone(l)
		if at, e := Check(offices(), plans(), l); at != 1 || e != x.e || !same(l, was) {
			t.Error(i, at, e)
		}
		l[2].Title = ""
		if at, e := Check(offices(), plans(), l); at != 1 || e != x.e {
			t.Error(i, at, e)
		}
		l[0].Notes[0].Name = ""
		if at, e := Check(offices(), plans(), l); at != 0 || e != api.ErrName {
			t.Error(i, at, e)
		}
		first := []api.File{rich(7)}
		x.apply(&first[0])
		want := x.e
		if first[0].ID == 1 || first[0].ID == 3 {
			want = api.OK
		}
		if _, e := Check(offices(), plans(), first); e != want {
			t.Error(i, e)
		}
	}
}

// P8.1: of several faults of one file the first one of the table counts,
// whichever notes have them.
func TestCheckOrder(t *testing.T) {
	steps := []change{
		{api.ErrRange, func(f *api.File) { f.Points = -1 }},
		{api.ErrOrder, func(f *api.File) { f.ID = 3 }},
		{api.ErrName, func(f *api.File) { f.Title = "" }},
		{api.ErrNotFound, func(f *api.File) { f.Office = 9 }},
		{api.ErrNoPlan, func(f *api.File) { f.Class = "9" }},
		{api.ErrTooLarge, func(f *api.File) { f.Notes = append(f.Notes, make([]api.Note, 12)...) }},
		{api.ErrName, func(f *api.File) { f.Notes[4].Name = "closed" }},
		{api.ErrRange, func(f *api.File) { f.Notes[3].Day.First = 10 }},
		{api.ErrOrder, func(f *api.File) { f.Notes[0].Recorded = 7 }},
	}
	for set := 1; set < 1<<len(steps); set++ {
		f := rich(7)
		want := api.OK
		for i, step := range steps {
			if set>>i&1 == 0 {
				continue
			}
			step.apply(&f)
			if want == api.OK {
				want = step.e
			}
		}
		if at, e := Check(offices(), plans(), []api.File{rich(3), f}); at != 1 || e != want {
			t.Errorf("%b %d %v", set, at, e)
		}
	}
}

// P8.1: faults that belong to no file, ahead of those that do.
func TestCheckEdges(t *testing.T) {
	noOffice, noPlan := offices(), plans()
	noOffice[0].Name = ""
	noPlan[2].Version = 2
	many := make([]api.File, api.MaxFiles+1)
	for i, x := range []struct {
		offices []api.Office
		plans   []api.Plan
		l       []api.File
		at      int
		e       api.Errno
	}{
		{noOffice, plans(), nil, -1, api.ErrArg},
		{offices(), noPlan, nil, -1, api.ErrArg},
		{noOffice, plans(), many, -1, api.ErrArg},
		{offices(), noPlan, many, -1, api.ErrArg},
		{offices(), noPlan, many[:1], -1, api.ErrArg},
		{make([]api.Office, api.MaxOffices+1), nil, nil, -1, api.ErrArg},
		{nil, make([]api.Plan, api.MaxPlans+1), nil, -1, api.ErrArg},
		{offices(), plans(), many, -1, api.ErrTooLarge},
		{nil, nil, make([]api.File, 5000), -1, api.ErrTooLarge},
		{offices(), plans(), many[1:], 0, api.ErrRange},
		{nil, nil, nil, -1, api.OK},
		{nil, plans(), []api.File{example()}, 0, api.ErrNotFound},
		{offices(), nil, []api.File{example()}, 0, api.ErrNoPlan},
		{offices(), plans()[:1], []api.File{example()}, -1, api.OK},
	} {
		if at, e := Check(x.offices, x.plans, x.l); at != x.at || e != x.e {
			t.Error(i, at, e)
		}
	}
}

// P8.1: the first day and the last one.
func TestCheckEnds(t *testing.T) {
	all := api.Span{From: 0, Until: api.Forever}
	o := []api.Office{{ID: 1, Name: "Mills", In: all}}
	p := []api.Plan{{Version: 1, In: all, Classes: classes("1")}}
	for _, day := range []int{0, 1, api.MaxDay - 1, api.MaxDay} {
		for _, until := range []int{day, api.MaxDay, api.Forever} {
			f := api.File{ID: 1, Office: 1, Opened: day, Closed: until, Class: "1", Title: "x", Notes: []api.Note{note("x", day, day, day)}}
			if at, e := Check(o, p, []api.File{f}); at != -1 || e != api.OK {
				t.Error(day, until, at, e)
			}
			if s, e := Class(p, f, day); s != "1" || e != api.OK {
				t.Error(day, s, e)
			}
		}
	}
}

// P8.1: Find takes any list.
func TestFind(t *testing.T) {
	l := []api.File{{ID: 5}, {ID: 0}, {ID: 3}, {ID: 3, Title: "x"}, {ID: -7}}
	for i, x := range []struct{ id, at int }{{5, 0}, {0, 1}, {3, 2}, {-7, 4}, {1, -1}, {math.MaxInt, -1}, {math.MinInt, -1}} {
		if at := Find(l, x.id); at != x.at {
			t.Error(i, at)
		}
	}
	many := make([]api.File, 5000)
	many[4999].ID = 8
	if Find(many, 8) != 4999 || Find(many, 0) != 0 || Find(nil, 0) != -1 {
		t.Error("many")
	}
}

// P8.2: the chapter's example.
func TestExample(t *testing.T) {
	f := example()
	for i, x := range []struct {
		name string
		day  int
		want api.Dating
		ok   bool
	}{
		{"audited", 25, api.Dating{}, false}, {"audited", 26, api.Dating{First: 20, Last: 25}, true}, {"audited", 41, api.Dating{First: 20, Last: 25}, true},
		{"closed", 29, api.Dating{}, false}, {"closed", 30, api.Dating{First: 30, Last: 30}, true}, {"closed", api.MaxDay, api.Dating{First: 30, Last: 30}, true},
		{"opened", 4, api.Dating{}, false}, {"opened", 5, api.Dating{First: 5, Last: 5}, true}, {"opened", 31, api.Dating{First: 5, Last: 5}, true},
		{"Audited", 41, api.Dating{}, false}, {"", 41, api.Dating{}, false},
	} {
		if d, ok := Trigger(f, x.name, x.day); d != x.want || ok != x.ok {
			t.Error(i, d, ok)
		}
	}
	for i, x := range []struct{ day, state, known int }{{-1, 0, 0}, {4, 0, 0}, {5, 1, 0}, {25, 1, 0}, {26, 1, 1}, {29, 1, 1}, {30, 2, 1}, {39, 2, 1}, {40, 2, 2}, {math.MaxInt, 2, 2}} {
		if s, l := State(f, x.day), Known(f, x.day); s != x.state || !slices.Equal(l, f.Notes[:x.known]) {
			t.Error(i, s, l)
		}
	}
}

// anything returns a file that can have all faults.
func anything(r *rand.Rand) api.File {
	f := api.File{ID: r.Intn(3), Opened: r.Intn(50) - 5, Closed: r.Intn(50) - 5, Class: "x"}
	if r.Intn(3) == 0 {
		f.Closed = api.Forever
	}
	for range r.Intn(20) {
		f.Notes = append(f.Notes, note(triggers()[r.Intn(7)], r.Intn(5)-1, r.Intn(5)-1, r.Intn(50)-5))
	}
	return f
}

// triggerModel is the trigger with a name by its definition.
func triggerModel(f api.File, name string, day int) (api.Dating, bool) {
	if name == "opened" {
		return api.Dating{First: f.Opened, Last: f.Opened}, true
	}
	if name == "closed" {
		return api.Dating{First: f.Closed, Last: f.Closed}, true
	}
	// The numbers of random datings are from -1 to 3.
	for last := 3; last >= -1; last-- {
		for first := 3; first >= -1; first-- {
			for _, n := range f.Notes {
				if n.Name == name && n.Recorded <= day && n.Day == (api.Dating{First: first, Last: last}) {
					return n.Day, true
				}
			}
		}
	}
	return api.Dating{}, false
}

// P8.2: what is known, triggers and states of any files.
func TestAnyFiles(t *testing.T) {
	r := rand.New(rand.NewSource(81))
	for range 1000 {
		f := anything(r)
		was := clone([]api.File{f})
		for _, day := range days() {
			var known []api.Note
			for _, n := range f.Notes {
				if n.Recorded <= day {
					known = append(known, n)
				}
			}
			got := Known(f, day)
			if !slices.Equal(got, known) {
				t.Fatal(f, day, got)
			}
			for i := range got {
				got[i].Name = "spoilt"
			}
			state := 2
			if day < f.Opened {
				state = 0
			} else if day < f.Closed {
				state = 1
			}
			if s := State(f, day); s != state {
				t.Fatal(f, day, s)
			}
			for _, name := range triggers() {
				want, ok := triggerModel(f, name, day)
				if name == "opened" && f.Opened > day || name == "closed" && f.Closed > day {
					want, ok = api.Dating{}, false
				}
				if d, is := Trigger(f, name, day); d != want || is != ok {
					t.Fatal(f, name, day, d, is)
				}
			}
		}
		if !same([]api.File{f}, was) {
			t.Fatal("changed", f)
		}
	}
}

// P8.3: the class on each day.
func TestClass(t *testing.T) {
	for i, x := range []struct {
		opened, day int
		class, want string
		e           api.Errno
	}{
		{5, 5, "1.1", "1.1", api.OK}, {5, 9, "1.1", "1.1", api.OK}, {5, 10, "1.1", "1.2", api.OK}, {5, 19, "1.1", "1.2", api.OK}, {5, 20, "1.1", "1", api.OK}, {5, 89, "1.1", "1", api.OK},
		{9, 9, "2", "2", api.OK}, {9, 10, "2", "2", api.OK}, {9, 20, "2", "3", api.OK}, {10, 10, "1.2", "1.2", api.OK}, {10, 20, "1.2", "1", api.OK}, {20, 20, "3", "3", api.OK},
		// Only the version of the day Opened matters, so the file need not be open.
		{9, 2, "1.1", "1.1", api.OK}, {89, 20, "1", "1", api.OK},
		{5, 90, "1.1", "", api.ErrNoPlan}, {5, 1, "1.1", "", api.ErrNoPlan}, {1, 5, "1.1", "", api.ErrNoPlan}, {90, 5, "1", "", api.ErrNoPlan}, {90, 90, "1", "", api.ErrNoPlan}, {1, 1, "1", "", api.ErrNoPlan},
		{10, 9, "1", "", api.ErrNoPlan}, {20, 10, "1", "", api.ErrNoPlan}, {20, 9, "1", "", api.ErrNoPlan},
		{5, 10, "1.2", "", api.ErrNoPlan}, {5, 20, "3", "", api.ErrNoPlan}, {5, 5, "", "", api.ErrNoPlan}, {5, 5, "x", "", api.ErrNoPlan}, {10, 10, "1.1", "", api.ErrNoPlan},
		{math.MinInt, 5, "1", "", api.ErrNoPlan}, {5, math.MinInt, "1", "", api.ErrNoPlan}, {math.MaxInt, 5, "1", "", api.ErrNoPlan}, {5, math.MaxInt, "1", "", api.ErrNoPlan}, {5, -1, "1", "", api.ErrNoPlan},
	} {
		f := api.File{Opened: x.opened, Class: x.class}
		if s, e := Class(plans(), f, x.day); s != x.want || e != x.e {
			t.Error(i, s, e)
		}
		for k, change := range []func(l []api.Plan){
			func(l []api.Plan) { l[2].Version = 0 },
			func(l []api.Plan) { l[0].In.From = 12 },
			func(l []api.Plan) { l[0].Classes[0].Title = "" },
			func(l []api.Plan) { l[1].Moved = nil; l[2].Moved = nil },
		} {
			l := plans()
			change(l)
			if s, e := Class(l, f, x.day); s != "" || e != api.ErrArg {
				t.Error(i, k, s, e)
			}
		}
		if s, e := Class(nil, f, x.day); s != "" || e != api.ErrNoPlan {
			t.Error(i, s, e)
		}
	}
}

// P8.3: the class is that of the version when the file was opened, followed to
// the version of the day.
func TestClassFollows(t *testing.T) {
	r := rand.New(rand.NewSource(82))
	l := plans()
	for range 200 {
		for _, f := range random(r) {
			for _, day := range days() {
				want, e := "", api.ErrNoPlan
				if from, to := plan.At(l, f.Opened), plan.At(l, day); to >= from && to >= 0 {
					want, e = plan.Follow(l, from+1, to+1, f.Class)
				}
				if got, x := Class(l, f, day); got != want || x != e {
					t.Fatal(f, day, got, x)
				}
			}
		}
	}
	if !reflect.DeepEqual(l, plans()) {
		t.Error("changed")
	}
}

// spoil changes everything in a list.
func spoil(l []api.File) {
	for i := range l {
		l[i].Title = "spoilt"
		for k := range l[i].Notes {
			l[i].Notes[k].Name = "spoilt"
		}
	}
}

// P8.4, P8.5: Close changes one file, and leaves the list without a fault.
func TestClose(t *testing.T) {
	r := rand.New(rand.NewSource(83))
	done := 0
	for range 2000 {
		l := random(r)
		was := clone(l)
		i := r.Intn(len(l))
		day := l[i].Opened + r.Intn(9) - 2
		got, e := Close(l, l[i].ID, day)
		switch {
		case l[i].Closed != api.Forever:
			if len(got) != 0 || e != api.ErrState {
				t.Fatal(l, i, day, got, e)
			}
			continue
		case day < l[i].Opened:
			if len(got) != 0 || e != api.ErrRange {
				t.Fatal(l, i, day, got, e)
			}
			continue
		}
		want := clone(l)
		want[i].Closed = day
		if e != api.OK || !same(got, want) {
			t.Fatal(l, i, day, got, e)
		}
		if at, e := Check(offices(), plans(), got); at != -1 || e != api.OK {
			t.Fatal(got, at, e)
		}
		spoil(got)
		if !same(l, was) {
			t.Fatal("shared", l)
		}
		done++
	}
	if done < 500 {
		t.Error(done)
	}
}

// P8.4: what Close refuses, in any list.
func TestCloseErrors(t *testing.T) {
	l := []api.File{{ID: 4, Opened: 10, Closed: 20}, {ID: 2, Opened: 10, Closed: api.Forever}, {ID: 2, Opened: 99, Closed: 99}, {ID: 0, Opened: -5, Closed: api.Forever}}
	for i, x := range []struct {
		id, day int
		e       api.Errno
	}{
		{2, 10, api.OK}, {2, api.MaxDay, api.OK}, {2, 500, api.OK}, {0, 3, api.OK}, {0, -5, api.OK},
		{2, 9, api.ErrRange}, {2, api.Forever, api.ErrRange}, {2, -1, api.ErrRange}, {2, math.MinInt, api.ErrRange}, {2, math.MaxInt, api.ErrRange}, {0, -6, api.ErrRange},
		{4, 20, api.ErrState}, {4, 15, api.ErrState}, {4, 30, api.ErrState}, {4, 9, api.ErrState}, {4, api.Forever, api.ErrState},
		{1, 15, api.ErrNotFound}, {-1, -1, api.ErrNotFound}, {3, api.Forever, api.ErrNotFound},
	} {
		was := clone(l)
		got, e := Close(l, x.id, x.day)
		if e != x.e || e != api.OK && len(got) != 0 || !same(l, was) {
			t.Error(i, got, e)
		}
		if e == api.OK {
			was[Find(l, x.id)].Closed = x.day
			if !same(got, was) {
				t.Error(i, got)
			}
		}
	}
	if got, e := Close(nil, 0, 0); len(got) != 0 || e != api.ErrNotFound {
		t.Error(got, e)
	}
}

// P8.4, P8.5: Add adds a note behind the others, leaves the list without a
// fault, and changes no trigger of the days before.
func TestAdd(t *testing.T) {
	r := rand.New(rand.NewSource(84))
	done := 0
	for range 2000 {
		l := random(r)
		was := clone(l)
		i := r.Intn(len(l))
		n := randomNote(r, l[i].Opened+r.Intn(20))
		got, e := Add(l, l[i].ID, n)
		if k := len(l[i].Notes); k > 0 && n.Recorded < l[i].Notes[k-1].Recorded {
			if len(got) != 0 || e != api.ErrOrder {
				t.Fatal(l, i, n, got, e)
			}
			continue
		}
		want := clone(l)
		want[i].Notes = append(want[i].Notes, n)
		if e != api.OK || !same(got, want) {
			t.Fatal(l, i, n, got, e)
		}
		if at, e := Check(offices(), plans(), got); at != -1 || e != api.OK {
			t.Fatal(got, at, e)
		}
		grown(t, l[i], got[i], n.Recorded)
		spoil(got)
		if !same(l, was) {
			t.Fatal("shared", l)
		}
		done++
	}
	if done < 500 {
		t.Error(done)
	}
}

// grown checks what the triggers of a file are before and behind a day on which
// it got a note.
func grown(t *testing.T, old, f api.File, recorded int) {
	t.Helper()
	for _, name := range triggers() {
		last := -1
		for _, day := range days() {
			was, had := Trigger(old, name, day)
			is, has := Trigger(f, name, day)
			if day < recorded && (was != is || had != has) {
				t.Fatal(old, f, name, day)
			}
			if last >= 0 && !has || has && is.Last < last {
				t.Fatal(f, name, day, is)
			}
			if has {
				last = is.Last
			}
		}
	}
}

// P8.4: adding shares no memory, even if a slice has room behind its end.
func TestAddRoom(t *testing.T) {
	notes := make([]api.Note, 3, 9)
	for i := range notes {
		notes[i] = note("x", 1, 1, 5)
	}
	room := notes[:9]
	l := []api.File{{ID: 1, Notes: notes}, {ID: 2, Notes: notes[:2]}}
	was := clone(l)
	got, e := Add(l, 2, note("y", 1, 1, 6))
	if e != api.OK || len(got) != 2 || len(got[1].Notes) != 3 || !same(l, was) || room[3] != (api.Note{}) {
		t.Error(got, e, l, room)
	}
	spoil(got)
	if !same(l, was) {
		t.Error("shared")
	}
}

// P8.4: what Add refuses, in any list, and which error comes first.
func TestAddErrors(t *testing.T) {
	full := slices.Repeat([]api.Note{note("x", 0, 0, 15)}, api.MaxNotes)
	l := []api.File{
		{ID: 4, Opened: 10, Notes: full[:api.MaxNotes-1]}, {ID: 2, Opened: 10, Notes: full}, {ID: 2, Opened: 10}, {ID: 1, Opened: 10}, {ID: 0, Opened: -5, Notes: []api.Note{note("opened", 9, 8, -3)}},
		{ID: 6, Notes: make([]api.Note, 5000)}, {ID: 9, Opened: 10, Notes: []api.Note{note("x", 0, 0, 99), note("x", 0, 0, 20)}},
	}
	for i, x := range []struct {
		id int
		n  api.Note
		e  api.Errno
	}{
		{4, note("x", 0, 0, 15), api.OK}, {4, note("y", 0, api.MaxDay, api.MaxDay), api.OK}, {1, note("x", 1, 1, 10), api.OK}, {0, note("x", 1, 1, -3), api.OK},
		{1, note(strings.Repeat("x", api.MaxName), 1, 1, 10), api.OK}, {9, note("x", 1, 1, 20), api.OK},
		{9, note("x", 1, 1, 19), api.ErrOrder}, {4, note("x", 0, 0, 14), api.ErrOrder}, {4, note("x", 0, 0, 10), api.ErrOrder}, {0, note("x", 1, 1, -4), api.ErrOrder},
		{4, note("x", 0, 0, 9), api.ErrRange}, {4, note("x", 0, 0, api.Forever), api.ErrRange}, {1, note("x", 0, 0, -1), api.ErrRange}, {1, note("x", 0, 0, math.MaxInt), api.ErrRange}, {1, note("x", 0, 0, math.MinInt), api.ErrRange},
		{0, note("x", 1, 1, -6), api.ErrRange}, {4, note("x", -1, 0, 15), api.ErrRange}, {4, note("x", 2, 1, 15), api.ErrRange}, {4, note("x", 0, api.Forever, 15), api.ErrRange}, {4, note("x", 2, 1, 14), api.ErrRange},
		{4, note("", 0, 0, 15), api.ErrName}, {4, note("x ", 0, 0, 15), api.ErrName}, {4, note("opened", 0, 0, 15), api.ErrName}, {4, note("closed", 0, 0, 15), api.ErrName},
		{4, note("closed", 2, 1, 14), api.ErrName}, {4, note("x\n", 0, 0, -1), api.ErrName}, {1, note(strings.Repeat("x", api.MaxName+1), 1, 1, 10), api.ErrName},
		{2, note("x", 0, 0, 15), api.ErrFull}, {2, note("", 2, 1, -1), api.ErrFull}, {6, note("x", 0, 0, 0), api.ErrFull}, {2, note("x", 0, 0, 14), api.ErrFull},
		{3, note("x", 0, 0, 15), api.ErrNotFound}, {-1, note("", 2, 1, -1), api.ErrNotFound},
	} {
		was := clone(l)
		got, e := Add(l, x.id, x.n)
		if e != x.e || e != api.OK && len(got) != 0 || !same(l, was) {
			t.Error(i, got, e)
		}
		if e == api.OK {
			k := Find(l, x.id)
			was[k].Notes = append(was[k].Notes, x.n)
			if !same(got, was) {
				t.Error(i, got)
			}
		}
	}
	if got, e := Add(nil, 0, note("x", 0, 0, 0)); len(got) != 0 || e != api.ErrNotFound {
		t.Error(got, e)
	}
}

// The lists of these tests have no fault.
func TestFixtures(t *testing.T) {
	if at, e := office.Check(offices()); at != -1 || e != api.OK {
		t.Error(at, e)
	}
	if at, e := plan.Check(plans()); at != -1 || e != api.OK {
		t.Error(at, e)
	}
}
