package verdict

import (
	"math"
	"math/rand"
	"reflect"
	"slices"
	"testing"

	"archivum/api"
	"archivum/file"
	"archivum/hold"
	"archivum/rule"
)

var always = api.Span{From: 0, Until: api.Forever}

func span(from, until int) api.Span { return api.Span{From: from, Until: until} }

func piece(from, until, value int) api.Piece {
	return api.Piece{In: span(from, until), Value: value}
}

func departed(file, day int) api.Departure { return api.Departure{File: file, Day: day} }

func titled(codes ...string) []api.Class {
	var l []api.Class
	for _, c := range codes {
		l = append(l, api.Class{Code: c, Title: "Class"})
	}
	return l
}

// base returns a registry without rules, holds and deeds: of the offices 1 has
// the heir 3, and this one the heir 4; of the classes 1.1 becomes 1.2 and then 1,
// and 2 becomes 3; from day 40 on there is no plan, and no file has a class.
func base() api.Registry {
	return api.Registry{
		Offices: []api.Office{
			{ID: 1, Name: "Mills", In: span(0, 20), Next: []int{3, 2}},
			{ID: 2, Name: "Works", In: span(20, api.Forever)},
			{ID: 3, Name: "Water", In: span(20, 30), Next: []int{4}},
			{ID: 4, Name: "Late", In: span(30, 35)},
		},
		Plans: []api.Plan{
			{Version: 1, In: span(2, 10), Classes: titled("1", "1.1", "2")},
			{Version: 2, In: span(10, 20), Classes: titled("1", "1.2", "2"), Moved: []api.Moved{{From: "1.1", To: "1.2"}}},
			{Version: 3, In: span(20, 40), Classes: titled("1", "3"), Moved: []api.Moved{{From: "2", To: "3"}}},
		},
		Files: []api.File{
			{ID: 3, Office: 1, Opened: 5, Closed: 12, Class: "1.1", Title: "Letters"},
			{ID: 5, Office: 1, Opened: 7, Closed: api.Forever, Class: "2", Title: "Bills"},
			{ID: 9, Office: 1, Opened: 11, Closed: 11, Class: "1.2", Title: "Maps"},
		},
	}
}

// example returns the registry of the chapter's example, with a hold.
func example() api.Registry {
	return api.Registry{
		Offices: []api.Office{{ID: 1, Name: "Mills", In: always}},
		Plans:   []api.Plan{{Version: 1, In: always, Classes: titled("1", "1.1", "2")}},
		Files:   []api.File{{ID: 7, Office: 1, Opened: 5, Closed: 10, Class: "1.1", Title: "Letters"}},
		Rules:   []api.Rule{{ID: 3, Class: "1", Trigger: "closed", Action: api.ActionDestroy, In: always}},
		Holds:   []api.Hold{{ID: 2, Kind: api.HoldFile, Of: 7, Reason: "Inquiry", In: span(12, 20)}},
	}
}

func pick[T any](r *rand.Rand, l ...T) T { return l[r.Intn(len(l))] }

// random returns a registry without a fault in which all verdicts are frequent,
// and of which nothing begins or ends from day horizon on.
func random(r *rand.Rand) api.Registry {
	x := base()
	x.Files = nil
	id := 0
	for range 1 + r.Intn(4) {
		id += 1 + r.Intn(3)
		x.Files = append(x.Files, randomFile(r, x.Plans, id))
	}
	id = 0
	for range r.Intn(9) {
		id += 1 + r.Intn(3)
		x.Rules = append(x.Rules, randomRule(r, id))
	}
	id = 0
	for range r.Intn(4) {
		id += 1 + r.Intn(3)
		x.Holds = append(x.Holds, randomHold(r, id))
	}
	day := 0
	for range r.Intn(3) {
		day += r.Intn(25)
		x.Selections = append(x.Selections, api.Selection{Sample: 1 + r.Intn(5), Day: day, Files: some(r, x.Files)})
	}
	end(r, &x)
	return x
}

// horizon is behind the end of the year of all days in random registries.
const horizon = 400

func randomFile(r *rand.Rand, plans []api.Plan, id int) api.File {
	f := api.File{ID: id, Office: 1, Opened: 2 + r.Intn(18), Closed: api.Forever, Title: "File"}
	f.Class = pick(r, plans[f.Opened/10].Classes...).Code
	if r.Intn(5) > 0 {
		f.Closed = f.Opened + r.Intn(10)
	}
	recorded := f.Opened
	for range r.Intn(5) {
		recorded += r.Intn(8)
		first := r.Intn(40)
		f.Notes = append(f.Notes, api.Note{Name: pick(r, "paid", "audited"), Day: api.Dating{First: first, Last: first + r.Intn(4)}, Recorded: recorded})
	}
	return f
}

func randomSpan(r *rand.Rand) api.Span {
	from := r.Intn(35)
	if r.Intn(2) == 0 {
		return span(0, api.Forever)
	}
	return span(from, from+1+r.Intn(20))
}

func randomRule(r *rand.Rand, id int) api.Rule {
	x := api.Rule{ID: id, Class: pick(r, "1", "1", "1.1", "1.2", "2", "3"), Trigger: pick(r, "opened", "closed", "closed", "paid", "audited"), In: randomSpan(r)}
	x.Action = pick(r, api.ActionDestroy, api.ActionDestroy, api.ActionDestroy, api.ActionTransfer)
	x.YearEnd = r.Intn(8) == 0
	if r.Intn(8) == 0 {
		x.Action, x.Trigger, x.YearEnd = api.ActionKeep, "opened", false
	}
	return x
}

func randomHold(r *rand.Rand, id int) api.Hold {
	h := api.Hold{ID: id, Kind: 1 + r.Intn(3), Of: 1 + r.Intn(4), Reason: "Inquiry", In: randomSpan(r)}
	if h.Kind == api.HoldClass {
		h.Of, h.Class = 0, pick(r, "1", "1.1", "1.2", "2", "3")
	}
	if h.In == always && r.Intn(2) == 0 {
		h.In.From = 30
	}
	return h
}

func some(r *rand.Rand, l []api.File) []int {
	var ids []int
	for _, f := range l {
		if r.Intn(3) == 0 {
			ids = append(ids, f.ID)
		}
	}
	return ids
}

// end lets some files be destroyed or transferred, in any order of days.
func end(r *rand.Rand, x *api.Registry) {
	destroyed, transferred := r.Intn(50), r.Intn(50)
	for _, f := range x.Files {
		switch r.Intn(6) {
		case 0:
			destroyed += r.Intn(3)
			x.Certificates = append(x.Certificates, api.Certificate{Number: 1 + r.Intn(9), Day: destroyed, Files: []int{f.ID}})
		case 1:
			transferred += r.Intn(3)
			x.Departures = append(x.Departures, api.Departure{File: f.ID, Day: transferred})
		}
	}
}

// copied returns a registry that shares no memory with another one.
func copied(x api.Registry) api.Registry {
	x.Offices = slices.Clone(x.Offices)
	for i := range x.Offices {
		x.Offices[i].Next = slices.Clone(x.Offices[i].Next)
	}
	x.Plans = slices.Clone(x.Plans)
	for i := range x.Plans {
		x.Plans[i].Classes = slices.Clone(x.Plans[i].Classes)
		x.Plans[i].Moved = slices.Clone(x.Plans[i].Moved)
	}
	x.Files = slices.Clone(x.Files)
	for i := range x.Files {
		x.Files[i].Notes = slices.Clone(x.Files[i].Notes)
	}
	x.Rules, x.Holds, x.Departures = slices.Clone(x.Rules), slices.Clone(x.Holds), slices.Clone(x.Departures)
	x.Selections = slices.Clone(x.Selections)
	for i := range x.Selections {
		x.Selections[i].Files = slices.Clone(x.Selections[i].Files)
	}
	x.Certificates = slices.Clone(x.Certificates)
	for i := range x.Certificates {
		x.Certificates[i].Files = slices.Clone(x.Certificates[i].Files)
	}
	return x
}

// named returns the day of the first element of a list that names a file.
func named[T any](l []T, id int, files func(T) []int, day func(T) int) int {
	for _, x := range l {
		if slices.Contains(files(x), id) {
			return day(x)
		}
	}
	return math.MaxInt
}

func destroyedOn(x api.Registry, id int) int {
	return named(x.Certificates, id, func(c api.Certificate) []int { return c.Files }, func(c api.Certificate) int { return c.Day })
}

func transferredOn(x api.Registry, id int) int {
	return named(x.Departures, id, func(d api.Departure) []int { return []int{d.File} }, func(d api.Departure) int { return d.Day })
}

func selectedOn(x api.Registry, id int) int {
	return named(x.Selections, id, func(s api.Selection) []int { return s.Files }, func(s api.Selection) int { return s.Day })
}

// applying returns the rules that apply to a file on a day, and their due days,
// -1 for those whose trigger the file does not have.
func applying(x api.Registry, f api.File, day int) ([]api.Rule, []int) {
	class, e := file.Class(x.Plans, f, day)
	if e != api.OK {
		return nil, nil
	}
	var rules []api.Rule
	var dues []int
	ids := rule.Apply(x.Rules, class, day)
	for _, a := range x.Rules {
		if !slices.Contains(ids, a.ID) {
			continue
		}
		rules = append(rules, a)
		due := -1
		if trigger, ok := file.Trigger(f, a.Trigger, day); ok {
			due, _ = rule.Due(a, trigger)
		}
		dues = append(dues, due)
	}
	return rules, dues
}

// model is the verdict by its definition.
func model(x api.Registry, f api.File, day int) api.Verdict {
	v := api.Verdict{File: f.ID, Day: day}
	rules, dues := applying(x, f, day)
	kept := slices.IndexFunc(rules, func(a api.Rule) bool { return a.Action == api.ActionKeep })
	unknown := slices.Index(dues, -1)
	switch {
	case day < f.Opened:
		return v
	case destroyedOn(x, f.ID) <= day:
		v.Kind = api.VerdictGone
		return v
	case transferredOn(x, f.ID) <= day:
		v.Kind = api.VerdictMoved
		return v
	case len(rules) == 0:
		return v
	case day < f.Closed:
		v.Kind = api.VerdictOpen
		return v
	case kept >= 0:
		v.Kind, v.Rule = api.VerdictForever, rules[kept].ID
		return v
	case unknown >= 0:
		v.Kind, v.Rule = api.VerdictWait, rules[unknown].ID
		return v
	}
	v.Due = slices.Max(dues)
	v.Rule = rules[slices.Index(dues, v.Due)].ID
	holds := hold.Holding(x.Offices, x.Plans, x.Holds, f, day)
	transfers := slices.ContainsFunc(rules, func(a api.Rule) bool { return a.Action == api.ActionTransfer })
	switch {
	case day <= v.Due:
		v.Kind = api.VerdictKeep
	case len(holds) > 0:
		v.Kind, v.Holds = api.VerdictHold, holds
	case transfers || selectedOn(x, f.ID) <= day:
		v.Kind = api.VerdictTransfer
	default:
		v.Kind = api.VerdictDestroy
	}
	return v
}

func same(a, b api.Verdict) bool {
	return a.Kind == b.Kind && a.File == b.File && a.Day == b.Day && a.Rule == b.Rule && a.Due == b.Due && slices.Equal(a.Holds, b.Holds)
}

// days are days on which something can happen in random registries, and others.
func days() []int {
	l := []int{360, 364, 365, 366, 367, horizon, api.MaxDay}
	for d := range 60 {
		l = append(l, d)
	}
	slices.Sort(l)
	return l
}

// deedsOf returns a registry with a rule, a hold, and two deeds of each kind.
func deedsOf(x api.Registry) api.Registry {
	x.Selections = []api.Selection{{Sample: 1, Day: 8, Files: []int{3, 5}}, {Sample: api.MaxID, Day: 8, Files: []int{3, 9}}}
	x.Certificates = []api.Certificate{{Number: 1, Day: 20, Files: []int{3}}, {Number: api.MaxID, Day: 20}}
	x.Departures = []api.Departure{departed(9, 5), departed(5, api.MaxDay)}
	x.Rules = []api.Rule{{ID: 1, Class: "1", Trigger: "closed", Action: api.ActionDestroy, In: always}}
	x.Holds = []api.Hold{{ID: 1, Kind: api.HoldFile, Of: 3, Reason: "Inquiry", In: always}}
	return x
}

// P11.1: which registries have no fault.
func TestCheckGood(t *testing.T) {
	most := deedsOf(base())
	most.Selections = slices.Repeat([]api.Selection{{Sample: 1, Day: 3, Files: []int{3, 5, 9}}}, api.MaxList)
	most.Certificates = slices.Repeat([]api.Certificate{{Number: 7, Day: 3}}, api.MaxList)
	all := base()
	all.Certificates = []api.Certificate{{Number: 1, Files: []int{3, 5, 9}}}
	gone := base()
	gone.Departures = []api.Departure{departed(3, 0), departed(9, 0), departed(5, 0)}
	// What is neither a record nor a deed does not matter.
	other := base()
	other.Clerks = []api.Clerk{{}, {ID: -1}}
	other.Proposals = []api.Proposal{{ID: -1, Files: []int{99}}}
	other.Approvals = []api.Approval{{Proposal: -1}}
	other.Changed = -1
	other.Certificates = []api.Certificate{{Number: 1, Proposal: -1, Before: "x", Digest: ""}}
	for i, x := range []api.Registry{{}, base(), example(), deedsOf(base()), most, all, gone, other} {
		was := copied(x)
		if e := Check(x); e != api.OK || !reflect.DeepEqual(x, was) {
			t.Error(i, e)
		}
	}
	r := rand.New(rand.NewSource(110))
	for range 500 {
		if e := Check(random(r)); e != api.OK {
			t.Fatal(e)
		}
	}
}

// change is a change of a registry that makes a fault.
type change struct {
	e     api.Errno
	apply func(x *api.Registry)
}

// faults are changes of the registry with deeds, in the order in which their
// errors count. Each list of deeds has them in the order of its elements.
func faults() []change {
	return []change{
		{api.ErrName, func(x *api.Registry) { x.Offices[1].Name = "" }},
		{api.ErrGap, func(x *api.Registry) { x.Plans[1].In.From = 9 }},
		{api.ErrRange, func(x *api.Registry) { x.Files[2].Points = 101 }},
		{api.ErrSyntax, func(x *api.Registry) { x.Rules[0].Class = "" }},
		{api.ErrArg, func(x *api.Registry) { x.Holds[0].Of = 0 }},

		{api.ErrTooLarge, func(x *api.Registry) {
			x.Selections = append(x.Selections, make([]api.Selection, api.MaxList-1)...)
		}},
		{api.ErrRange, func(x *api.Registry) { x.Selections[0].Sample = 0 }},
		{api.ErrNotFound, func(x *api.Registry) { x.Selections[0].Files = append([]int{9, 4}, x.Selections[0].Files...) }},
		{api.ErrOrder, func(x *api.Registry) { x.Selections[0].Files = append([]int{5}, x.Selections[0].Files...) }},
		{api.ErrRange, func(x *api.Registry) { x.Selections[1].Sample = api.MaxID + 1 }},
		{api.ErrNotFound, func(x *api.Registry) { x.Selections[1].Files = append(x.Selections[1].Files, 0) }},
		{api.ErrOrder, func(x *api.Registry) { x.Selections[1].Day = 7 }},

		{api.ErrTooLarge, func(x *api.Registry) {
			x.Certificates = append(x.Certificates, make([]api.Certificate, api.MaxList-1)...)
		}},
		{api.ErrRange, func(x *api.Registry) { x.Certificates[0].Number = api.MaxID + 1 }},
		{api.ErrNotFound, func(x *api.Registry) { x.Certificates[0].Files = append([]int{5, 4}, x.Certificates[0].Files...) }},
		{api.ErrOrder, func(x *api.Registry) { x.Certificates[0].Files = append([]int{3}, x.Certificates[0].Files...) }},
		{api.ErrRange, func(x *api.Registry) { x.Certificates[1].Number = 0 }},
		{api.ErrNotFound, func(x *api.Registry) { x.Certificates[1].Files = append(x.Certificates[1].Files, 2) }},
		{api.ErrOrder, func(x *api.Registry) { x.Certificates[1].Day = 19 }},
		{api.ErrTwice, func(x *api.Registry) { x.Certificates[1].Files = append([]int{3}, x.Certificates[1].Files...) }},

		{api.ErrTooLarge, func(x *api.Registry) {
			x.Departures = append(x.Departures, make([]api.Departure, api.MaxList-1)...)
		}},
		{api.ErrRange, func(x *api.Registry) { x.Departures[0].Day = -1 }},
		{api.ErrNotFound, func(x *api.Registry) { x.Departures[0].File = 10 }},
		{api.ErrRange, func(x *api.Registry) { x.Departures[1].Day = -1 }},
		{api.ErrNotFound, func(x *api.Registry) { x.Departures[1].File = -9 }},
		{api.ErrOrder, func(x *api.Registry) { x.Departures[1].Day = min(x.Departures[1].Day, 4) }},
		{api.ErrTwice, func(x *api.Registry) { x.Departures = append(x.Departures, departed(9, api.MaxDay)) }},
	}
}

// refused checks that no other function takes a registry with a fault.
func refused(t *testing.T, x api.Registry) {
	t.Helper()
	for _, id := range []int{3, 4} {
		for _, day := range []int{20, -1} {
			if v, e := On(x, id, day); e != api.ErrArg || !same(v, api.Verdict{}) {
				t.Error(v, e)
			}
			if d, ok, e := Turns(x, id, day); e != api.ErrArg || d != 0 || ok {
				t.Error(d, ok, e)
			}
			if l, e := Line(x, id, span(day, 30)); e != api.ErrArg || len(l) != 0 {
				t.Error(l, e)
			}
			if l, e := Due(x, id, day); e != api.ErrArg || len(l) != 0 {
				t.Error(l, e)
			}
		}
	}
}

// P11.1: each fault has its error, and of two faults the first one counts.
func TestCheckFaults(t *testing.T) {
	for i, a := range faults() {
		x := deedsOf(base())
		a.apply(&x)
		if e := Check(x); e != a.e {
			t.Error(i, e)
		}
		refused(t, x)
		for k, b := range faults()[i+1:] {
			x := deedsOf(base())
			a.apply(&x)
			b.apply(&x)
			if e := Check(x); e != a.e {
				t.Error(i, i+1+k, e)
			}
		}
	}
}

// P11.1: what is a fault of the deeds, by itself.
func TestCheckDeeds(t *testing.T) {
	for i, x := range []struct {
		e      api.Errno
		number int
		day    int
		files  []int
	}{
		{api.OK, 1, 0, nil}, {api.OK, api.MaxID, api.MaxDay, []int{3, 5, 9}}, {api.OK, 1, 0, []int{9}},
		{api.ErrRange, 0, 0, nil}, {api.ErrRange, -1, 0, nil}, {api.ErrRange, math.MinInt, 0, nil}, {api.ErrRange, math.MaxInt, 0, nil}, {api.ErrRange, api.MaxID + 1, 0, []int{9, 4}},
		{api.ErrRange, 1, -1, []int{9, 3}}, {api.ErrRange, 1, api.Forever, nil}, {api.ErrRange, 1, math.MinInt, nil}, {api.ErrRange, 1, math.MaxInt, nil},
		{api.ErrNotFound, 1, 0, []int{9, 5, 4}}, {api.ErrNotFound, 1, 0, []int{0}}, {api.ErrNotFound, 1, 0, []int{math.MinInt}}, {api.ErrNotFound, 1, 0, []int{math.MaxInt, 3}},
		{api.ErrOrder, 1, 0, []int{3, 3}}, {api.ErrOrder, 1, 0, []int{5, 3}}, {api.ErrOrder, 1, 0, []int{3, 9, 5}},
	} {
		r := base()
		r.Selections = []api.Selection{{Sample: x.number, Day: x.day, Files: x.files}}
		if e := Check(r); e != x.e {
			t.Error(i, e)
		}
		r = base()
		r.Certificates = []api.Certificate{{Number: x.number, Day: x.day, Files: x.files}}
		if e := Check(r); e != x.e {
			t.Error(i, e)
		}
		if len(x.files) != 1 {
			continue
		}
		r = base()
		r.Departures = []api.Departure{{File: x.files[0], Day: x.day}}
		if e := Check(r); e != x.e {
			t.Error(i, e)
		}
	}
	for i, change := range []func(x *api.Registry){
		func(x *api.Registry) {
			x.Certificates = []api.Certificate{{Number: 1, Files: []int{3, 5}}, {Number: 1}, {Number: 1, Files: []int{5, 9}}}
		},
		func(x *api.Registry) { x.Departures = []api.Departure{departed(3, 5), departed(5, 6), departed(3, 7)} },
		// A departure is behind all certificates, even if its day is earlier.
		func(x *api.Registry) {
			x.Certificates, x.Departures = []api.Certificate{{Number: 1, Day: 9, Files: []int{3}}}, []api.Departure{departed(3, 5)}
		},
	} {
		x := base()
		change(&x)
		if e := Check(x); e != api.ErrTwice {
			t.Error(i, e)
		}
	}
}

// P11.2: the chapter's example.
func TestOnExample(t *testing.T) {
	for _, held := range []bool{false, true} {
		x := example()
		if !held {
			x.Holds = nil
		}
		for day := range 25 {
			want := api.Verdict{File: 7, Day: day}
			switch {
			case day < 5:
			case day < 10:
				want.Kind = api.VerdictOpen
			case day == 10:
				want.Kind, want.Rule, want.Due = api.VerdictKeep, 3, 10
			case held && 12 <= day && day <= 19:
				want.Kind, want.Rule, want.Due, want.Holds = api.VerdictHold, 3, 10, []int{2}
			default:
				want.Kind, want.Rule, want.Due = api.VerdictDestroy, 3, 10
			}
			if v, e := On(x, 7, day); e != api.OK || !same(v, want) {
				t.Error(held, v, e)
			}
		}
	}
}

// P11.2: each row of the table hides those below it. The row that applies first
// is taken away by the next step.
func TestOnRows(t *testing.T) {
	x := example()
	keep := api.Rule{ID: 5, Class: "1", Trigger: "opened", Action: api.ActionKeep, In: always}
	x.Rules = []api.Rule{
		{ID: 1, Class: "1", Trigger: "opened", Action: api.ActionDestroy, In: always},
		{ID: 2, Class: "1", Trigger: "paid", Action: api.ActionDestroy, In: always},
		{ID: 4, Class: "1", Trigger: "sent", Action: api.ActionTransfer, In: always},
		keep, keep,
	}
	x.Rules[4].ID = 6
	x.Holds = append(x.Holds, api.Hold{ID: 8, Kind: api.HoldClass, Class: "1.1", Reason: "Inquiry", In: always})
	x.Certificates = []api.Certificate{{Number: 1, Day: 3, Files: []int{7}}}
	x.Selections = []api.Selection{{Sample: 1, Day: 13, Files: []int{7}}, {Sample: 1, Day: 20, Files: []int{7}}}
	day := 13
	note := func(name string, last int) func() {
		return func() {
			x.Files[0].Notes = append(x.Files[0].Notes, api.Note{Name: name, Day: api.Dating{First: 1, Last: last}, Recorded: 9})
		}
	}
	for i, step := range []struct {
		apply           func()
		kind, rule, due int
		holds           []int
	}{
		{func() { x.Files[0].Opened, x.Files[0].Closed = 14, 20 }, api.VerdictNone, 0, 0, nil},
		{func() { x.Files[0].Opened = 5 }, api.VerdictGone, 0, 0, nil},
		{func() { x.Certificates, x.Departures = nil, []api.Departure{departed(7, 13)} }, api.VerdictMoved, 0, 0, nil},
		{func() {
			x.Departures[0].Day = 14
			x.Rules[0].Class = "1.1"
			x.Rules[0].In.Until = 13
			x.Files[0].Class = "2"
		}, api.VerdictNone, 0, 0, nil},
		{func() { x.Files[0].Class = "1.1" }, api.VerdictOpen, 0, 0, nil},
		{func() { x.Files[0].Closed = 13 }, api.VerdictForever, 5, 0, nil},
		{func() { x.Rules = x.Rules[:3]; x.Rules[0].Class = "1"; x.Rules[0].In.Until = 14 }, api.VerdictWait, 2, 0, nil},
		{note("paid", 13), api.VerdictWait, 4, 0, nil},
		{note("sent", 13), api.VerdictKeep, 2, 13, nil},
		{note("sent", 14), api.VerdictKeep, 4, 14, nil},
		{func() { x.Files[0].Notes[2].Day.Last = 12; x.Files[0].Notes[1].Day.Last = 12 }, api.VerdictKeep, 2, 13, nil},
		{func() { x.Files[0].Notes[0].Day.Last = 12 }, api.VerdictHold, 2, 12, []int{2, 8}},
		{func() { x.Holds[0].In.Until = 13 }, api.VerdictHold, 2, 12, []int{8}},
		{func() { x.Holds[1].In.From = 14 }, api.VerdictTransfer, 2, 12, nil},
		{func() { x.Selections[0].Day = 14 }, api.VerdictTransfer, 2, 12, nil},
		{func() { x.Selections[0].Day = 13; x.Rules[2].Action = api.ActionDestroy }, api.VerdictTransfer, 2, 12, nil},
		{func() { x.Selections[0].Day = 14 }, api.VerdictDestroy, 2, 12, nil},
	} {
		step.apply()
		want := api.Verdict{Kind: step.kind, File: 7, Day: day, Rule: step.rule, Due: step.due, Holds: step.holds}
		if v, e := On(x, 7, day); e != api.OK || !same(v, want) {
			t.Error(i, v, e)
		}
	}
}

// P11.2: the verdicts at both ends of all days, with a due day that is 0, or the
// last day.
func TestOnEnds(t *testing.T) {
	x := example()
	x.Holds = nil
	x.Files[0].Opened, x.Files[0].Closed = 0, 0
	if v, e := On(x, 7, 0); e != api.OK || !same(v, api.Verdict{Kind: api.VerdictKeep, File: 7, Rule: 3}) {
		t.Error(v, e)
	}
	if v, e := On(x, 7, 1); e != api.OK || !same(v, api.Verdict{Kind: api.VerdictDestroy, File: 7, Day: 1, Rule: 3}) {
		t.Error(v, e)
	}
	x.Rules[0].Years = 200
	x.Files[0].Closed = api.MaxDay - 100
	if v, e := On(x, 7, api.MaxDay); e != api.OK || !same(v, api.Verdict{Kind: api.VerdictKeep, File: 7, Day: api.MaxDay, Rule: 3, Due: api.MaxDay}) {
		t.Error(v, e)
	}
}

// P11.2, P11.3: invalid arguments, in the order of their errors.
func TestErrors(t *testing.T) {
	x := deedsOf(base())
	for _, id := range []int{4, 0, -3, math.MinInt, math.MaxInt} {
		for _, day := range []int{0, 20, -1, api.Forever} {
			if v, e := On(x, id, day); e != api.ErrNotFound || !same(v, api.Verdict{}) {
				t.Error(v, e)
			}
			if d, ok, e := Turns(x, id, day); e != api.ErrNotFound || d != 0 || ok {
				t.Error(d, ok, e)
			}
			if l, e := Line(x, id, span(day, day)); e != api.ErrNotFound || len(l) != 0 {
				t.Error(l, e)
			}
		}
	}
	for _, day := range []int{-1, api.Forever, math.MinInt, math.MaxInt} {
		if v, e := On(x, 3, day); e != api.ErrRange || !same(v, api.Verdict{}) {
			t.Error(v, e)
		}
		if d, ok, e := Turns(x, 3, day); e != api.ErrRange || d != 0 || ok {
			t.Error(d, ok, e)
		}
		if l, e := Due(x, api.VerdictNone, day); e != api.ErrRange || len(l) != 0 {
			t.Error(l, e)
		}
	}
	for _, kind := range []int{-1, 10, math.MinInt, math.MaxInt} {
		if l, e := Due(x, kind, 20); e != api.ErrRange || len(l) != 0 {
			t.Error(l, e)
		}
	}
	for _, in := range []api.Span{{}, span(5, 5), span(6, 5), span(-1, 5), span(5, api.Forever+1), span(api.Forever, api.Forever), span(math.MinInt, math.MaxInt), span(math.MaxInt, math.MinInt)} {
		if l, e := Line(x, 3, in); e != api.ErrRange || len(l) != 0 {
			t.Error(in, l, e)
		}
	}
}

// P11.2: On and Due are those of the definition.
func TestOnModel(t *testing.T) {
	r := rand.New(rand.NewSource(111))
	var seen [10]int
	for range 250 {
		x := random(r)
		was := copied(x)
		for _, day := range days() {
			var want [10][]int
			for _, f := range x.Files {
				v, e := On(x, f.ID, day)
				if m := model(x, f, day); e != api.OK || !same(v, m) {
					t.Fatal(x, v, m, e)
				}
				seen[v.Kind]++
				want[v.Kind] = append(want[v.Kind], f.ID)
				// The result is the caller's.
				for i := range v.Holds {
					v.Holds[i] = -1
				}
			}
			for kind, ids := range want {
				if day%7 > 0 {
					break
				}
				if got, e := Due(x, kind, day); e != api.OK || !slices.Equal(got, ids) {
					t.Fatal(x, kind, day, got, ids, e)
				}
			}
		}
		if !reflect.DeepEqual(x, was) {
			t.Fatal("changed")
		}
	}
	if slices.Min(seen[:]) < 100 {
		t.Error(seen)
	}
}

// kinds returns the kinds of the verdicts on a file from day 0 to horizon.
func kinds(x api.Registry, f api.File) []int {
	l := make([]int, horizon+1)
	for day := range l {
		l[day] = model(x, f, day).Kind
	}
	return l
}

// lineModel joins the days of a span that have the same kind. From horizon on
// the kind is always the same.
func lineModel(kinds []int, in api.Span) []api.Piece {
	var l []api.Piece
	for day := in.From; day < in.Until; {
		until := day + 1
		if day >= horizon {
			until = in.Until
		}
		if n, kind := len(l), kinds[min(day, horizon)]; n > 0 && l[n-1].Value == kind {
			l[n-1].In.Until = until
		} else {
			l = append(l, piece(day, until, kind))
		}
		day = until
	}
	return l
}

// P11.3: Line and Turns are what the verdicts on all days say.
func TestLineModel(t *testing.T) {
	r := rand.New(rand.NewSource(112))
	pieces := 0
	for range 60 {
		x := random(r)
		was := copied(x)
		for _, f := range x.Files {
			all := kinds(x, f)
			for _, in := range []api.Span{always, span(0, 1), span(api.MaxDay, api.Forever), span(horizon, horizon+5), span(r.Intn(30), 31+r.Intn(40)), span(r.Intn(20), 20+r.Intn(20)+1), span(50, api.MaxDay)} {
				got, e := Line(x, f.ID, in)
				if want := lineModel(all, in); e != api.OK || !slices.Equal(got, want) {
					t.Fatal(x, f.ID, in, got, want, e)
				}
				pieces = max(pieces, len(got))
			}
			for _, day := range days() {
				want, found := 0, false
				for d := day + 1; d <= horizon && !found; d++ {
					if all[d] != all[day] {
						want, found = d, true
					}
				}
				if got, ok, e := Turns(x, f.ID, day); e != api.OK || got != want || ok != found {
					t.Fatal(x, f.ID, day, got, ok, e, want)
				}
			}
		}
		if !reflect.DeepEqual(x, was) {
			t.Fatal("changed")
		}
	}
	if pieces < 7 {
		t.Error(pieces)
	}
}

// P11.3: the example of the chapter, and turns far away.
func TestLineExample(t *testing.T) {
	x := example()
	want := []api.Piece{piece(0, 5, 0), piece(5, 10, 3), piece(10, 11, 6), piece(11, 12, 8), piece(12, 20, 7), piece(20, api.Forever, 8)}
	if l, e := Line(x, 7, always); e != api.OK || !slices.Equal(l, want) {
		t.Error(l, e)
	}
	for i, p := range want {
		next, ok := p.In.Until, true
		if i == len(want)-1 {
			next, ok = 0, false
		}
		for _, day := range []int{p.In.From, p.In.Until - 1} {
			if d, found, e := Turns(x, 7, day); e != api.OK || d != next || found != ok {
				t.Error(i, day, d, found, e)
			}
		}
	}
	// The last day is a turn, too.
	x.Holds[0].In = span(api.MaxDay, api.Forever)
	if d, ok, e := Turns(x, 7, 11); e != api.OK || d != api.MaxDay || !ok {
		t.Error(d, ok, e)
	}
	x.Rules[0].Years = 200
	x.Files[0].Closed = api.MaxDay
	if d, ok, e := Turns(x, 7, 11); e != api.OK || d != api.MaxDay || !ok {
		t.Error(d, ok, e)
	}
	if d, ok, e := Turns(x, 7, api.MaxDay); e != api.OK || d != 0 || ok {
		t.Error(d, ok, e)
	}
}

// P11.3: a selection is a turn, but not a second one.
func TestLineSelected(t *testing.T) {
	x := example()
	x.Selections = []api.Selection{{Sample: 1, Day: 15, Files: nil}, {Sample: 2, Day: 25, Files: []int{7}}, {Sample: 3, Day: 30, Files: []int{7}}}
	want := []api.Piece{piece(10, 11, 6), piece(11, 12, 8), piece(12, 20, 7), piece(20, 25, 8), piece(25, api.Forever, 9)}
	if l, e := Line(x, 7, span(10, api.Forever)); e != api.OK || !slices.Equal(l, want) {
		t.Error(l, e)
	}
	if d, ok, e := Turns(x, 7, 20); e != api.OK || d != 25 || !ok {
		t.Error(d, ok, e)
	}
	if d, ok, e := Turns(x, 7, 25); e != api.OK || d != 0 || ok {
		t.Error(d, ok, e)
	}
}

// P11.3: a timeline in which everything begins and ends alone.
func TestLineLong(t *testing.T) {
	x := example()
	x.Rules, x.Holds = nil, nil
	for i := range api.MaxRules {
		x.Rules = append(x.Rules, api.Rule{ID: i + 1, Class: "1", Trigger: "closed", Action: api.ActionDestroy, In: span(20+8*i, 24+8*i)})
		x.Holds = append(x.Holds, api.Hold{ID: i + 1, Kind: api.HoldOffice, Of: 1, Reason: "Inquiry", In: span(21+8*i, 22+8*i)})
	}
	want := []api.Piece{piece(0, 20, 0)}
	for i := range api.MaxRules {
		from := 20 + 8*i
		want = append(want, piece(from, from+1, 8), piece(from+1, from+2, 7), piece(from+2, from+4, 8), piece(from+4, from+8, 0))
	}
	want[len(want)-1].In.Until = api.Forever
	if l, e := Line(x, 7, always); e != api.OK || !slices.Equal(l, want) {
		t.Error(l, e)
	}
}

// permitted reports whether a file may be destroyed on a day.
func permitted(t *testing.T, x api.Registry, id, day int) bool {
	t.Helper()
	v, e := On(x, id, day)
	if e != api.OK {
		t.Fatal(x, e)
	}
	return v.Kind == api.VerdictDestroy
}

// P11.4: destruction needs that all rules say so, that their time has passed, and
// that there is no hold.
func TestPermitted(t *testing.T) {
	r := rand.New(rand.NewSource(113))
	found := 0
	for range 300 {
		x := random(r)
		f := pick(r, x.Files...)
		for _, day := range days() {
			if !permitted(t, x, f.ID, day) {
				continue
			}
			found++
			rules, dues := applying(x, f, day)
			for i, a := range rules {
				if a.Action != api.ActionDestroy || dues[i] < 0 || dues[i] >= day {
					t.Fatal(x, f.ID, day, a)
				}
			}
			if len(rules) == 0 || len(hold.Holding(x.Offices, x.Plans, x.Holds, f, day)) > 0 || day < f.Closed {
				t.Fatal(x, f.ID, day)
			}
		}
	}
	if found < 300 {
		t.Error(found)
	}
}

// P11.4: a further hold, a longer period, and a further rule of the same class
// never permit a destruction.
func TestNeverPermits(t *testing.T) {
	r := rand.New(rand.NewSource(114))
	for range 300 {
		x := random(r)
		f := pick(r, x.Files...)
		held := copied(x)
		held.Holds = append(held.Holds, randomHold(r, 99))
		longer := copied(x)
		for i, a := range longer.Rules {
			if a.Action != api.ActionKeep && r.Intn(2) == 0 {
				longer.Rules[i].Years++
				longer.Rules[i].YearEnd = longer.Rules[i].YearEnd || r.Intn(2) == 0
			}
		}
		for _, day := range days() {
			was := permitted(t, x, f.ID, day)
			if !was && (permitted(t, held, f.ID, day) || permitted(t, longer, f.ID, day)) {
				t.Fatal(x, held.Holds, longer.Rules, f.ID, day)
			}
			rules, _ := applying(x, f, day)
			if was || len(rules) == 0 {
				continue
			}
			more := copied(x)
			a := randomRule(r, 99)
			a.Class = rules[0].Class
			more.Rules = append(more.Rules, a)
			if permitted(t, more, f.ID, day) {
				t.Fatal(x, a, f.ID, day)
			}
		}
	}
}

// P11.4: a note that is recorded later, a closing, and what is done later change
// nothing on the days before.
func TestLater(t *testing.T) {
	r := rand.New(rand.NewSource(115))
	for range 200 {
		x := random(r)
		i := r.Intn(len(x.Files))
		f := x.Files[i]
		later := copied(x)
		recorded := f.Opened + r.Intn(30)
		if n := len(f.Notes); n > 0 {
			recorded = max(recorded, f.Notes[n-1].Recorded)
		}
		later.Files, _ = file.Add(later.Files, f.ID, api.Note{Name: pick(r, "paid", "audited"), Day: api.Dating{First: 1, Last: 1 + r.Intn(50)}, Recorded: recorded})
		if f.Closed == api.Forever {
			later.Files, _ = file.Close(later.Files, f.ID, recorded)
		}
		later.Selections = append(later.Selections, api.Selection{Sample: 1, Day: 50 + recorded, Files: []int{f.ID}})
		for day := range recorded {
			v, e := On(x, f.ID, day)
			if w, d := On(later, f.ID, day); e != api.OK || d != api.OK || !same(v, w) {
				t.Fatal(x, f.ID, day, v, w, d)
			}
		}
	}
}
