package evidence

import (
	"math"
	"math/rand"
	"reflect"
	"slices"
	"strings"
	"testing"

	"archivum/api"
	"archivum/day"
	"archivum/file"
	"archivum/hold"
	"archivum/plan"
	"archivum/rule"
	"archivum/verdict"
)

var always = api.Span{From: 0, Until: api.Forever}

func span(from, until int) api.Span { return api.Span{From: from, Until: until} }

func titled(codes ...string) []api.Class {
	var l []api.Class
	for _, c := range codes {
		l = append(l, api.Class{Code: c, Title: "Class"})
	}
	return l
}

// example returns the registry of the example of layer 11, with the hold.
func example() api.Registry {
	return api.Registry{
		Offices: []api.Office{{ID: 1, Name: "Mills", In: always}},
		Plans:   []api.Plan{{Version: 1, In: always, Classes: titled("1", "1.1")}},
		Files:   []api.File{{ID: 7, Office: 1, Opened: 5, Closed: 10, Class: "1.1", Title: "Letters"}},
		Rules:   []api.Rule{{ID: 3, Class: "1", Trigger: "closed", Action: api.ActionDestroy, In: always}},
		Holds:   []api.Hold{{ID: 2, Kind: api.HoldFile, Of: 7, Reason: "Inquiry", In: span(12, 20)}},
	}
}

func pick[T any](r *rand.Rand, l ...T) T { return l[r.Intn(len(l))] }

// random returns a registry without a fault, with one to three files and all that
// matters for verdicts. From day 40 on there is no plan, and no file has a class.
func random(r *rand.Rand) api.Registry {
	x := api.Registry{
		Offices: []api.Office{{ID: 1, Name: "Mills", In: span(0, 20), Next: []int{2}}, {ID: 2, Name: "Works", In: span(20, api.Forever)}},
		Plans: []api.Plan{
			{Version: 1, In: span(0, 10), Classes: titled("1", "1.1", "2")},
			{Version: 2, In: span(10, 40), Classes: titled("1", "1.2", "2"), Moved: []api.Moved{{From: "1.1", To: "1.2"}}},
		},
	}
	for id := range 1 + r.Intn(3) {
		x.Files = append(x.Files, randomFile(r, x.Plans, 3*id+3))
	}
	for id := range r.Intn(7) {
		x.Rules = append(x.Rules, randomRule(r, 2*id+1))
	}
	for id := range r.Intn(5) {
		h := api.Hold{ID: id + 4, Kind: 1 + r.Intn(3), Of: pick(r, 1, 2, 3, 6), Reason: "Inquiry", In: randomSpan(r)}
		if h.Kind == api.HoldClass {
			h.Of, h.Class = 0, pick(r, "1", "1.2", "2")
		}
		x.Holds = append(x.Holds, h)
	}
	selected, done := 0, r.Intn(50)
	for range r.Intn(4) {
		selected += r.Intn(20)
		x.Selections = append(x.Selections, api.Selection{Sample: 1 + r.Intn(5), Day: selected, Files: some(r, x.Files)})
	}
	for _, f := range x.Files {
		switch r.Intn(6) {
		case 0:
			x.Certificates = append(x.Certificates, api.Certificate{Number: 8, Day: done, Files: []int{f.ID}})
		case 1:
			x.Departures = append(x.Departures, api.Departure{File: f.ID, Day: done})
		}
	}
	return x
}

func randomFile(r *rand.Rand, plans []api.Plan, id int) api.File {
	f := api.File{ID: id, Office: 1, Opened: r.Intn(20), Closed: api.Forever, Title: "File"}
	f.Class = pick(r, plans[f.Opened/10].Classes...).Code
	if r.Intn(5) > 0 {
		f.Closed = f.Opened + r.Intn(10)
	}
	recorded := f.Opened
	for range r.Intn(4) {
		recorded += r.Intn(8)
		first := r.Intn(30)
		f.Notes = append(f.Notes, api.Note{Name: pick(r, "paid", "sent"), Day: api.Dating{First: first, Last: first + r.Intn(4)}, Recorded: recorded})
	}
	return f
}

func randomSpan(r *rand.Rand) api.Span {
	if from := r.Intn(70); from < 35 {
		return span(from, from+1+r.Intn(20))
	}
	return always
}

func randomRule(r *rand.Rand, id int) api.Rule {
	x := api.Rule{ID: id, Class: pick(r, "1", "1", "1.2", "2"), Trigger: pick(r, "opened", "closed", "closed", "paid", "sent"), In: randomSpan(r)}
	x.Action = pick(r, api.ActionDestroy, api.ActionDestroy, api.ActionTransfer)
	if r.Intn(9) == 0 {
		x.Action, x.Trigger = api.ActionKeep, "opened"
	}
	return x
}

func some(r *rand.Rand, l []api.File) []int {
	var ids []int
	for _, f := range l {
		if r.Intn(3) == 0 {
			ids = append(ids, f.ID)
		}
	}
	return ids
}

// model is the explanation by its definition, of which a verdict is only the
// last step.
func model(x api.Registry, f api.File, v api.Verdict) []api.Step {
	end := api.Step{Kind: api.StepEnd, Number: v.Kind, First: v.Rule, Last: v.Due}
	l := []api.Step{{Kind: api.StepOpen, First: f.Opened, Last: f.Closed}}
	if v.Day < f.Opened {
		return append(l, end)
	}
	for _, c := range x.Certificates {
		if c.Day <= v.Day && slices.Contains(c.Files, f.ID) {
			return []api.Step{{Kind: api.StepDone, Number: 1, First: c.Day}, end}
		}
	}
	for _, d := range x.Departures {
		if d.Day <= v.Day && d.File == f.ID {
			return []api.Step{{Kind: api.StepDone, Number: 2, First: d.Day}, end}
		}
	}
	class, e := file.Class(x.Plans, f, v.Day)
	if e == api.OK {
		l = append(l, api.Step{Kind: api.StepClass, Number: x.Plans[plan.At(x.Plans, v.Day)].Version, Text: class})
	} else {
		l = append(l, api.Step{Kind: api.StepClass})
	}
	l, over := withRules(x, f, class, v.Day, l)
	if over {
		return append(l, end)
	}
	l, over = withPeriods(x, f, class, v.Day, l)
	if over {
		return append(l, end)
	}
	holds := hold.Holding(x.Offices, x.Plans, x.Holds, f, v.Day)
	for _, id := range holds {
		l = append(l, api.Step{Kind: api.StepHold, Number: id})
	}
	for _, s := range x.Selections {
		if len(holds) == 0 && s.Day <= v.Day && slices.Contains(s.Files, f.ID) {
			l = append(l, api.Step{Kind: api.StepSelected, Number: s.Sample, First: s.Day})
			break
		}
	}
	return append(l, end)
}

// withRules adds the rules that apply, and says whether they are all.
func withRules(x api.Registry, f api.File, class string, day int, l []api.Step) ([]api.Step, bool) {
	ids := rule.Apply(x.Rules, class, day)
	over := len(ids) == 0 || day < f.Closed
	for _, id := range ids {
		l = append(l, api.Step{Kind: api.StepRule, Number: id})
		over = over || x.Rules[rule.Find(x.Rules, id)].Action == api.ActionKeep
	}
	return l, over
}

// withPeriods adds the triggers and due days, and says whether the period goes on.
func withPeriods(x api.Registry, f api.File, class string, day int, l []api.Step) ([]api.Step, bool) {
	last := -1
	for _, id := range rule.Apply(x.Rules, class, day) {
		a := x.Rules[rule.Find(x.Rules, id)]
		trigger, ok := file.Trigger(f, a.Trigger, day)
		if !ok {
			return l, true
		}
		due, _ := rule.Due(a, trigger)
		l = append(l, api.Step{Kind: api.StepTrigger, Number: id, First: trigger.First, Last: trigger.Last}, api.Step{Kind: api.StepDue, Number: id, Last: due})
		last = max(last, due)
	}
	return l, day <= last
}

// lists returns lists of steps that are like another one, but not the same.
func lists(l []api.Step) [][]api.Step {
	var out [][]api.Step
	for i := range l {
		for _, change := range []func(s *api.Step){
			func(s *api.Step) { s.Kind = s.Kind%9 + 1 }, func(s *api.Step) { s.Kind = 0 }, func(s *api.Step) { s.Number++ }, func(s *api.Step) { s.Number = -s.Number - 1 },
			func(s *api.Step) { s.First-- }, func(s *api.Step) { s.First += 2 }, func(s *api.Step) { s.Last++ }, func(s *api.Step) { s.Last = math.MinInt },
			func(s *api.Step) { s.Text += "1" }, func(s *api.Step) { s.Text += "\x00" },
		} {
			changed := slices.Clone(l)
			change(&changed[i])
			out = append(out, changed, changed[:i+1])
		}
		out = append(out, l[:i], slices.Delete(slices.Clone(l), i, i+1), slices.Insert(slices.Clone(l), i, l[i]), slices.Insert(slices.Clone(l), i, api.Step{}))
		if i > 0 && l[i] != l[i-1] {
			swapped := slices.Clone(l)
			swapped[i-1], swapped[i] = l[i], l[i-1]
			out = append(out, swapped)
		}
	}
	return append(out, append(slices.Clone(l), api.Step{}), append(slices.Clone(l), l[len(l)-1]), slices.Concat(l, l))
}

// differs returns the first index at which two different lists differ.
func differs(a, b []api.Step) int {
	for i := range min(len(a), len(b)) {
		if a[i] != b[i] {
			return i
		}
	}
	return min(len(a), len(b))
}

func sameVerdict(a, b api.Verdict) bool {
	return a.Kind == b.Kind && a.File == b.File && a.Day == b.Day && a.Rule == b.Rule && a.Due == b.Due && slices.Equal(a.Holds, b.Holds)
}

// accepts checks that a list is the only one that is accepted.
func accepts(t *testing.T, x api.Registry, id, day int, l []api.Step) {
	t.Helper()
	v, e := verdict.On(x, id, day)
	got, f := Check(x, id, day, l)
	if e != api.OK || f != api.OK || !sameVerdict(v, got) {
		t.Fatal(x, id, day, l, got, f)
	}
	if at, e := Wrong(x, id, day, l); at != -1 || e != api.OK {
		t.Fatal(x, id, day, l, at, e)
	}
	for _, other := range append(lists(l), nil) {
		if got, e := Check(x, id, day, other); e != api.ErrProof || !sameVerdict(got, api.Verdict{}) {
			t.Fatal(x, id, day, other, got, e)
		}
		if at, e := Wrong(x, id, day, other); at != differs(l, other) || e != api.OK {
			t.Fatal(x, id, day, other, at, e)
		}
	}
}

// P12.1: the chapter's example.
func TestExplainExample(t *testing.T) {
	x := example()
	open := api.Step{Kind: api.StepOpen, First: 5, Last: 10}
	class := api.Step{Kind: api.StepClass, Number: 1, Text: "1.1"}
	applies := api.Step{Kind: api.StepRule, Number: 3}
	trigger, due := api.Step{Kind: api.StepTrigger, Number: 3, First: 10, Last: 10}, api.Step{Kind: api.StepDue, Number: 3, Last: 10}
	end := func(kind, rule, due int) api.Step {
		return api.Step{Kind: api.StepEnd, Number: kind, First: rule, Last: due}
	}
	for _, day := range []int{0, 4, 5, 9, 10, 11, 12, 15, 19, 20, api.MaxDay} {
		var want []api.Step
		switch {
		case day < 5:
			want = []api.Step{open, end(api.VerdictNone, 0, 0)}
		case day < 10:
			want = []api.Step{open, class, applies, end(api.VerdictOpen, 0, 0)}
		case day == 10:
			want = []api.Step{open, class, applies, trigger, due, end(api.VerdictKeep, 3, 10)}
		case 12 <= day && day <= 19:
			want = []api.Step{open, class, applies, trigger, due, {Kind: api.StepHold, Number: 2}, end(api.VerdictHold, 3, 10)}
		default:
			want = []api.Step{open, class, applies, trigger, due, end(api.VerdictDestroy, 3, 10)}
		}
		if l, e := Explain(x, 7, day); e != api.OK || !slices.Equal(l, want) {
			t.Error(day, l, e)
		}
		accepts(t, x, 7, day, want)
	}
}

// P12.1: each way to the end.
func TestExplainWays(t *testing.T) {
	x := example()
	x.Plans = append(x.Plans, api.Plan{Version: 2, In: span(50, 60), Classes: titled("1")})
	x.Plans[0].In.Until = 50
	x.Files[0].Notes = []api.Note{{Name: "paid", Day: api.Dating{First: 8, Last: 14}, Recorded: 16}}
	x.Rules = []api.Rule{
		{ID: 1, Class: "1", Trigger: "closed", Action: api.ActionTransfer, In: always},
		{ID: 3, Class: "1", Trigger: "paid", Action: api.ActionDestroy, In: always},
		{ID: 4, Class: "1", Trigger: "opened", Action: api.ActionDestroy, In: always},
		{ID: 6, Class: "1", Trigger: "opened", Action: api.ActionKeep, In: span(30, 40)},
		{ID: 9, Class: "1.1", Trigger: "sent", Action: api.ActionDestroy, In: span(45, 46)},
	}
	x.Selections = []api.Selection{{Sample: 5, Day: 13, Files: []int{7}}, {Sample: 2, Day: 13, Files: []int{7}}}
	x.Departures = []api.Departure{{File: 7, Day: 70}}
	for i, c := range []struct {
		day  int
		want string
	}{
		{9, "opened 5-10, class 1.1 in 1, applies 1 3 4, end 3 0 0"},
		// Only the rules ahead of the one without a trigger have periods.
		{15, "opened 5-10, class 1.1 in 1, applies 1 3 4, period 1 10-10 10, end 5 3 0"},
		{16, "opened 5-10, class 1.1 in 1, applies 1 3 4, period 1 10-10 10, period 3 8-14 14, period 4 5-5 5, hold 2, end 7 3 14"},
		{20, "opened 5-10, class 1.1 in 1, applies 1 3 4, period 1 10-10 10, period 3 8-14 14, period 4 5-5 5, selected 5 13, end 9 3 14"},
		{30, "opened 5-10, class 1.1 in 1, applies 1 3 4 6, end 4 6 0"},
		{45, "opened 5-10, class 1.1 in 1, applies 9, end 5 9 0"},
		{50, "opened 5-10, class 1 in 2, applies 1 3 4, period 1 10-10 10, period 3 8-14 14, period 4 5-5 5, selected 5 13, end 9 3 14"},
		{60, "opened 5-10, class  in 0, end 0 0 0"},
		{70, "done 2 70, end 2 0 0"},
	} {
		l, e := Explain(x, 7, c.day)
		if got := short(l); e != api.OK || got != c.want {
			t.Error(i, got, e)
		}
		accepts(t, x, 7, c.day, l)
	}
	x.Departures, x.Certificates = nil, []api.Certificate{{Number: 9, Day: 3, Files: []int{7}}}
	for day, want := range map[int]string{4: "opened 5-10, end 0 0 0", 5: "done 1 3, end 1 0 0", 70: "done 1 3, end 1 0 0"} {
		l, e := Explain(x, 7, day)
		if got := short(l); e != api.OK || got != want {
			t.Error(day, got, e)
		}
		accepts(t, x, 7, day, l)
	}
}

// short returns a short text of an explanation.
func short(l []api.Step) string {
	var out []string
	for _, s := range l {
		n, first, last := itoa(s.Number), itoa(s.First), itoa(s.Last)
		switch s.Kind {
		case api.StepOpen:
			out = append(out, "opened "+first+"-"+last)
		case api.StepDone:
			out = append(out, "done "+n+" "+first)
		case api.StepClass:
			out = append(out, "class "+s.Text+" in "+n)
		case api.StepRule:
			if k := len(out) - 1; strings.HasPrefix(out[k], "applies") {
				out[k] += " " + n
			} else {
				out = append(out, "applies "+n)
			}
		case api.StepTrigger:
			out = append(out, "period "+n+" "+first+"-"+last)
		case api.StepDue:
			out[len(out)-1] += " " + last
		case api.StepHold:
			out = append(out, "hold "+n)
		case api.StepSelected:
			out = append(out, "selected "+n+" "+first)
		case api.StepEnd:
			out = append(out, "end "+n+" "+first+" "+last)
		}
	}
	return strings.Join(out, ", ")
}

// itoa returns the text of a number that is not negative.
func itoa(n int) string {
	if n < 10 {
		return string(rune('0' + n))
	}
	return itoa(n/10) + itoa(n%10)
}

// P12.1, P12.2, P12.4: explanations are those of the definition, and no other
// list is accepted.
func TestExplainModel(t *testing.T) {
	r := rand.New(rand.NewSource(120))
	var kinds, steps [10]int
	for range 120 {
		x := random(r)
		for _, f := range x.Files {
			for day := range 55 {
				v, e := verdict.On(x, f.ID, day)
				if e != api.OK {
					t.Fatal(x, e)
				}
				want := model(x, f, v)
				got, e := Explain(x, f.ID, day)
				if e != api.OK || !slices.Equal(got, want) {
					t.Fatal(x, f.ID, day, got, want, e)
				}
				kinds[v.Kind]++
				for _, s := range got {
					steps[s.Kind]++
				}
				if r.Intn(30) == 0 {
					accepts(t, x, f.ID, day, got)
				}
			}
		}
	}
	if slices.Min(kinds[:]) < 50 || slices.Min(steps[1:]) < 50 {
		t.Error(kinds, steps)
	}
}

// P12.4: each step of an explanation is a fact on its own.
func TestFacts(t *testing.T) {
	r := rand.New(rand.NewSource(121))
	for range 150 {
		x := random(r)
		f := pick(r, x.Files...)
		for day := range 55 {
			l, _ := Explain(x, f.ID, day)
			for _, s := range l {
				if !isFact(x, f, day, s) {
					t.Fatal(x, f.ID, day, s)
				}
			}
		}
	}
}

// isFact reports whether a step is true, whatever the others are.
func isFact(x api.Registry, f api.File, day int, s api.Step) bool {
	class, _ := file.Class(x.Plans, f, day)
	i := rule.Find(x.Rules, s.Number)
	switch s.Kind {
	case api.StepClass:
		return s.Text == class && s.Number == plan.At(x.Plans, day)+1
	case api.StepRule:
		return slices.Contains(rule.Apply(x.Rules, class, day), s.Number)
	case api.StepTrigger:
		trigger, ok := file.Trigger(f, x.Rules[i].Trigger, day)
		return ok && trigger == api.Dating{First: s.First, Last: s.Last}
	case api.StepDue:
		trigger, _ := file.Trigger(f, x.Rules[i].Trigger, day)
		due, e := rule.Due(x.Rules[i], trigger)
		return e == api.OK && due == s.Last
	case api.StepSelected:
		return s.First <= day && slices.ContainsFunc(x.Selections, func(c api.Selection) bool {
			return c.Sample == s.Number && c.Day == s.First && slices.Contains(c.Files, f.ID)
		})
	case api.StepHold:
		return slices.Contains(hold.Holding(x.Offices, x.Plans, x.Holds, f, day), s.Number)
	case api.StepOpen:
		return s.First == f.Opened && s.Last == f.Closed
	case api.StepDone:
		return s.First <= day
	case api.StepEnd:
		v, e := verdict.On(x, f.ID, day)
		return e == api.OK && v.Kind == s.Number && v.Rule == s.First && v.Due == s.Last
	}
	return false
}

// P12.1, P12.2: invalid arguments, in the order of their errors.
func TestErrors(t *testing.T) {
	right, _ := Explain(example(), 7, 15)
	wrong := example()
	wrong.Rules[0].Class = ""
	for i, c := range []struct {
		x       api.Registry
		id, day int
		e       api.Errno
	}{
		{wrong, 7, 15, api.ErrArg}, {wrong, 8, 15, api.ErrArg}, {wrong, 7, -1, api.ErrArg}, {api.Registry{Departures: []api.Departure{{File: 1}}}, 1, 1, api.ErrArg},
		{example(), 8, 15, api.ErrNotFound}, {example(), 0, -1, api.ErrNotFound}, {example(), math.MinInt, api.Forever, api.ErrNotFound}, {api.Registry{}, 1, 1, api.ErrNotFound},
		{example(), 7, -1, api.ErrRange}, {example(), 7, api.Forever, api.ErrRange}, {example(), 7, math.MaxInt, api.ErrRange}, {example(), 7, math.MinInt, api.ErrRange},
	} {
		if l, e := Explain(c.x, c.id, c.day); e != c.e || len(l) != 0 {
			t.Error(i, l, e)
		}
		for _, l := range [][]api.Step{right, nil, right[:3]} {
			if v, e := Check(c.x, c.id, c.day, l); e != c.e || !sameVerdict(v, api.Verdict{}) {
				t.Error(i, v, e)
			}
			if at, e := Wrong(c.x, c.id, c.day, l); e != c.e || at != 0 {
				t.Error(i, at, e)
			}
		}
	}
}

// P12.1, P12.2: arguments are not modified, and results are not shared.
func TestMemory(t *testing.T) {
	x := example()
	l, _ := Explain(x, 7, 15)
	was := slices.Clone(l)
	v, _ := Check(x, 7, 15, l)
	v.Holds[0] = 99
	if at, e := Wrong(x, 7, 15, l); at != -1 || e != api.OK || !slices.Equal(l, was) {
		t.Error(l, at, e)
	}
	clear(l)
	if again, e := Explain(x, 7, 15); e != api.OK || !slices.Equal(again, was) || !reflect.DeepEqual(x, example()) {
		t.Error(x, again, e)
	}
	if text, e := Format(was); e != api.OK || !strings.Contains(text, "hold 2\n") {
		t.Error(text, e)
	}
}

// formatted are steps with their lines.
func formatted() []struct {
	s    api.Step
	line string
} {
	return []struct {
		s    api.Step
		line string
	}{
		{api.Step{Kind: api.StepOpen, First: 0, Last: 59}, "opened 1600-01-01, closed 1600-02-29"},
		{api.Step{Kind: api.StepOpen, First: 59, Last: 0}, "opened 1600-02-29, closed 1600-01-01"},
		{api.Step{Kind: api.StepOpen, First: 60, Last: api.Forever}, "opened 1600-03-01, open"},
		{api.Step{Kind: api.StepOpen, First: api.MaxDay, Last: api.MaxDay, Number: 5}, "opened 4470-11-25, closed 4470-11-25"},
		{api.Step{Kind: api.StepDone, Number: 1, First: 59}, "destroyed 1600-02-29"},
		{api.Step{Kind: api.StepDone, Number: 2, First: api.MaxDay}, "transferred 4470-11-25"},
		{api.Step{Kind: api.StepClass, Number: 12, Text: "3.1.4"}, "class 3.1.4 in version 12"},
		{api.Step{Kind: api.StepClass, Number: api.MaxID, Text: "999.999.999.999.999.999"}, "class 999.999.999.999.999.999 in version 1073741824"},
		{api.Step{Kind: api.StepClass}, "no class"},
		{api.Step{Kind: api.StepRule, Number: 0}, "rule 0 applies"},
		{api.Step{Kind: api.StepRule, Number: api.MaxID}, "rule 1073741824 applies"},
		{api.Step{Kind: api.StepTrigger, Number: 3, First: 0, Last: api.MaxDay}, "rule 3 starts from 1600-01-01 to 4470-11-25"},
		{api.Step{Kind: api.StepTrigger, Number: 3, First: 1, Last: 0}, "rule 3 starts from 1600-01-02 to 1600-01-01"},
		{api.Step{Kind: api.StepDue, Number: 30, Last: 0}, "rule 30 is due after 1600-01-01"},
		{api.Step{Kind: api.StepDue, Number: 3, Last: 365}, "rule 3 is due after 1600-12-31"},
		{api.Step{Kind: api.StepHold, Number: 4}, "hold 4"},
		{api.Step{Kind: api.StepSelected, Number: 5, First: 31}, "selected by appraisal 5 on 1600-02-01"},
		{api.Step{Kind: api.StepEnd, Number: api.VerdictNone}, "verdict none"},
		{api.Step{Kind: api.StepEnd, Number: api.VerdictGone}, "verdict gone"},
		{api.Step{Kind: api.StepEnd, Number: api.VerdictMoved}, "verdict moved"},
		{api.Step{Kind: api.StepEnd, Number: api.VerdictOpen}, "verdict open"},
		{api.Step{Kind: api.StepEnd, Number: api.VerdictForever, First: 6}, "verdict for ever by rule 6"},
		{api.Step{Kind: api.StepEnd, Number: api.VerdictWait, First: api.MaxID}, "verdict wait by rule 1073741824"},
		{api.Step{Kind: api.StepEnd, Number: api.VerdictKeep, First: 6, Last: 1}, "verdict keep by rule 6, due after 1600-01-02"},
		{api.Step{Kind: api.StepEnd, Number: api.VerdictHold, First: 6, Last: 59}, "verdict hold by rule 6, due after 1600-02-29"},
		{api.Step{Kind: api.StepEnd, Number: api.VerdictDestroy, First: 6, Last: api.MaxDay}, "verdict destroy by rule 6, due after 4470-11-25"},
		{api.Step{Kind: api.StepEnd, Number: api.VerdictTransfer, First: 6, Last: 59}, "verdict transfer by rule 6, due after 1600-02-29"},
		{api.Step{Kind: api.StepEnd, Number: api.VerdictTransfer}, "verdict transfer"},
		// What does not stand in the line can be anything.
		{api.Step{Kind: api.StepRule, Number: 3, First: -1, Last: math.MaxInt}, "rule 3 applies"},
		{api.Step{Kind: api.StepDue, Number: 3, First: -1}, "rule 3 is due after 1600-01-01"},
		{api.Step{Kind: api.StepDone, Number: 2, Last: -1}, "transferred 1600-01-01"},
	}
}

// P12.3: the lines of all kinds, alone and together.
func TestFormat(t *testing.T) {
	var all []api.Step
	want := ""
	for i, x := range formatted() {
		if s, e := Format([]api.Step{x.s}); e != api.OK || s != x.line+"\n" {
			t.Error(i, s, e)
		}
		all = append(all, x.s)
		want += x.line + "\n"
	}
	was := slices.Clone(all)
	if s, e := Format(all); e != api.OK || s != want || !slices.Equal(all, was) {
		t.Error(s, e)
	}
	for _, l := range [][]api.Step{nil, {}} {
		if s, e := Format(l); e != api.OK || s != "" {
			t.Error(s, e)
		}
	}
	most := slices.Repeat([]api.Step{{Kind: api.StepHold, Number: 4}}, api.MaxList)
	if s, e := Format(most); e != api.OK || s != strings.Repeat("hold 4\n", api.MaxList) {
		t.Error(e)
	}
	for _, s := range []api.Step{{Kind: api.StepHold}, {}} {
		if text, e := Format(append(most, s)); e != api.ErrTooLarge || text != "" {
			t.Error(e)
		}
	}
}

// P12.3: steps that have no line.
func TestFormatErrors(t *testing.T) {
	bad := []api.Step{
		{}, {Kind: 10}, {Kind: -1}, {Kind: math.MinInt}, {Kind: math.MaxInt},
		{Kind: api.StepDone, Number: 0}, {Kind: api.StepDone, Number: 3}, {Kind: api.StepEnd, Number: 10},
		{Kind: api.StepEnd, Number: 6, First: -1}, {Kind: api.StepEnd, Number: 6, First: api.MaxID + 1, Last: 4}, {Kind: api.StepEnd, Number: 6, Last: 1}, {Kind: api.StepEnd, Number: 6, Last: -1},
	}
	for kind := api.StepClass; kind <= api.StepDone; kind++ {
		for _, n := range []int{-1, api.MaxID + 1, math.MinInt, math.MaxInt} {
			bad = append(bad, api.Step{Kind: kind, Number: n}, api.Step{Kind: kind, Number: n, Text: "1"})
		}
		if kind != api.StepClass {
			bad = append(bad, api.Step{Kind: kind, Number: 1, Text: "1"}, api.Step{Kind: kind, Number: 1, Text: " "})
		}
	}
	for _, s := range []string{"", "x", "0", "01", "1.", ".1", "1..2", "1000", "1.1.1.1.1.1.1", " 1", "1\n", "-1", "1.1 in version 2"} {
		bad = append(bad, api.Step{Kind: api.StepClass, Number: 1, Text: s})
		if s != "" {
			bad = append(bad, api.Step{Kind: api.StepClass, Text: s})
		}
	}
	bad = append(bad, api.Step{Kind: api.StepClass, Text: "1"})
	for _, d := range []int{-1, api.Forever, api.Forever + 1, math.MinInt, math.MaxInt} {
		bad = append(bad,
			api.Step{Kind: api.StepOpen, First: d}, api.Step{Kind: api.StepDone, Number: 1, First: d}, api.Step{Kind: api.StepTrigger, Number: 1, First: d}, api.Step{Kind: api.StepTrigger, Number: 1, Last: d},
			api.Step{Kind: api.StepDue, Number: 1, Last: d}, api.Step{Kind: api.StepSelected, Number: 1, First: d}, api.Step{Kind: api.StepEnd, Number: 6, First: 1, Last: d})
		if d != api.Forever {
			bad = append(bad, api.Step{Kind: api.StepOpen, Last: d})
		}
	}
	good := api.Step{Kind: api.StepHold, Number: 4}
	for i, s := range bad {
		for _, l := range [][]api.Step{{s}, {s, good}, {good, s}, {good, s, good}} {
			if text, e := Format(l); e != api.ErrArg || text != "" {
				t.Error(i, s, text, e)
			}
		}
	}
}

// P12.3: explanations have texts, with a line for each step.
func TestFormatExplanation(t *testing.T) {
	x := example()
	l, _ := Explain(x, 7, 15)
	want := "opened 1600-01-06, closed 1600-01-11\nclass 1.1 in version 1\nrule 3 applies\nrule 3 starts from 1600-01-11 to 1600-01-11\nrule 3 is due after 1600-01-11\nhold 2\nverdict hold by rule 3, due after 1600-01-11\n"
	if s, e := Format(l); e != api.OK || s != want {
		t.Error(s, e)
	}
	r := rand.New(rand.NewSource(122))
	for range 50 {
		x := random(r)
		f := pick(r, x.Files...)
		for d := range 55 {
			l, _ := Explain(x, f.ID, d)
			s, e := Format(l)
			opened, _ := day.Format(f.Opened)
			if e != api.OK || strings.Count(s, "\n") != len(l) || l[0].Kind == api.StepOpen && !strings.HasPrefix(s, "opened "+opened+", ") {
				t.Fatal(x, f.ID, d, s, e)
			}
		}
	}
}
