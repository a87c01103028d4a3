package plan

import (
	"fmt"
	"math"
	"math/rand"
	"reflect"
	"regexp"
	"slices"
	"strings"
	"testing"

	"archivum/api"
)

// form is the form of class codes.
var form = regexp.MustCompile(`\A[1-9][0-9]{0,2}(\.[1-9][0-9]{0,2}){0,5}\z`)

// of returns a version with some codes.
func of(version, from, until int, codes ...string) api.Plan {
	p := api.Plan{Version: version, In: api.Span{From: from, Until: until}}
	for _, c := range codes {
		p.Classes = append(p.Classes, api.Class{Code: c, Title: "Class"})
	}
	return p
}

// moved returns pairs of From and To.
func moved(pairs ...string) []api.Moved {
	var l []api.Moved
	for i := 0; i < len(pairs); i += 2 {
		l = append(l, api.Moved{From: pairs[i], To: pairs[i+1]})
	}
	return l
}

// example returns the versions of the chapter's example.
func example() []api.Plan {
	l := []api.Plan{of(1, 0, 100, "1", "1.1", "1.2", "2"), of(2, 100, api.Forever, "1", "1.2", "2", "3")}
	l[1].Moved = moved("2", "3")
	return l
}

// rich returns three versions in which every row of the table of faults can be
// broken at an element of its own, the later rows at the earlier elements.
func rich() []api.Plan {
	l := []api.Plan{
		of(1, 50, 100, "1", "1.1", "2", "3", "4", "7"),
		of(2, 100, 200, "1", "1.2", "2", "3", "4", "5", "6"),
		of(3, 200, api.Forever, "1", "2", "3", "4", "5", "6"),
	}
	l[1].Moved = moved("1.1", "1.2", "2", "3", "7", "1")
	return l
}

// copied returns a list that shares no memory with another one.
func copied(l []api.Plan) []api.Plan {
	out := slices.Clone(l)
	for i := range out {
		out[i].Classes = slices.Clone(out[i].Classes)
		out[i].Moved = slices.Clone(out[i].Moved)
	}
	return out
}

// codesOf returns the codes of a version.
func codesOf(p api.Plan) []string {
	var l []string
	for _, c := range p.Classes {
		l = append(l, c.Code)
	}
	return l
}

// wide returns a text for each code such that these are in the order of strings.
func wide(code string) string {
	s := ""
	for part := range strings.SplitSeq(code, ".") {
		s += fmt.Sprintf("%03s", part)
	}
	return s
}

// pool are all codes of 1 to 3 numbers, each one of 1, 2 and 10, in order.
func pool() []string {
	var l []string
	for _, a := range []string{"1", "2", "10"} {
		l = append(l, a)
		for _, b := range []string{"1", "2", "10"} {
			l = append(l, a+"."+b)
			for _, c := range []string{"1", "2", "10"} {
				l = append(l, a+"."+b+"."+c)
			}
		}
	}
	slices.SortFunc(l, func(a, b string) int { return strings.Compare(wide(a), wide(b)) })
	return l
}

// random returns versions without a fault, of which each one has many classes
// that the one before has not.
func random(r *rand.Rand) []api.Plan {
	l := make([]api.Plan, 1+r.Intn(5))
	day := r.Intn(3)
	for i := range l {
		from := day
		day += 1 + r.Intn(3)
		l[i] = of(i+1, from, day)
		for _, c := range pool() {
			dot := strings.LastIndex(c, ".")
			if r.Intn(2) == 0 && (dot < 0 || slices.Contains(codesOf(l[i]), c[:dot])) {
				l[i].Classes = append(l[i].Classes, api.Class{Code: c, Title: "Class " + c})
			}
		}
		if len(l[i].Classes) == 0 {
			l[i].Classes = append(l[i].Classes, api.Class{Code: "10", Title: "Only"})
		}
		if i > 0 {
			move(r, l[i-1], &l[i])
		}
	}
	if r.Intn(2) == 0 {
		l[len(l)-1].In.Until = api.Forever
	}
	return l
}

// move moves some classes of a version, and all that have no next one.
func move(r *rand.Rand, old api.Plan, p *api.Plan) {
	for _, c := range codesOf(old) {
		if _, ok := nextModel(old, *p, c); !ok || r.Intn(5) == 0 {
			p.Moved = append(p.Moved, api.Moved{From: c, To: p.Classes[r.Intn(len(p.Classes))].Code})
		}
	}
}

// nextModel is the next class by its definition.
func nextModel(old, next api.Plan, code string) (string, bool) {
	if !slices.Contains(codesOf(old), code) {
		return "", false
	}
	for _, m := range next.Moved {
		if m.From == code {
			return m.To, true
		}
	}
	best, found := "", false
	for _, c := range codesOf(next) {
		within := form.MatchString(c) && form.MatchString(code) && strings.HasPrefix(code, c+".")
		if c == code || within && !found || within && best != code && len(c) > len(best) {
			best, found = c, true
		}
	}
	return best, found
}

// followModel follows a class by the model.
func followModel(l []api.Plan, from, to int, code string) string {
	for v := from; v < to; v++ {
		code, _ = nextModel(l[v-1], l[v], code)
	}
	return code
}

// P7.1: which lists have no fault.
func TestCheckGood(t *testing.T) {
	var most []api.Plan
	for v := 1; v <= api.MaxPlans; v++ {
		most = append(most, of(v, v, v+1, "1"))
	}
	var full []string
	for n := 1; n <= api.MaxClasses; n++ {
		full = append(full, fmt.Sprint(n))
	}
	large := []api.Plan{of(1, 0, 1, full...), of(2, 1, 2, full...)}
	for _, c := range full {
		large[1].Moved = append(large[1].Moved, api.Moved{From: c, To: "128"})
	}
	longest := []api.Plan{of(1, 0, 1, "999", "999.1", "999.1.1", "999.1.1.1", "999.1.1.1.1", "999.1.1.1.1.999")}
	longest[0].Classes[3].Title = strings.Repeat("x", api.MaxName)
	numeric := []api.Plan{of(1, 0, 1, "2", "2.9", "2.10", "10"), of(2, 1, 2, "9", "10")}
	numeric[1].Moved = moved("2", "9", "2.9", "10", "2.10", "9")
	// A class can be moved away from its code, which is there still, and to itself.
	kept := []api.Plan{of(1, 0, 1, "1", "2"), of(2, 1, 2, "1", "2")}
	kept[1].Moved = moved("1", "2", "2", "2")
	for i, l := range [][]api.Plan{
		nil, {}, example(), rich(), most, large, longest, numeric, kept,
		{of(1, 0, api.Forever)}, {of(1, 0, 1)}, {of(1, api.MaxDay, api.Forever, "1")}, {of(1, 5, 6), of(2, 6, 7)}, {of(1, 5, 6), of(2, 6, 7, "1")},
	} {
		was := copied(l)
		if at, e := Check(l); at != -1 || e != api.OK || !reflect.DeepEqual(l, was) {
			t.Error(i, at, e)
		}
	}
	r := rand.New(rand.NewSource(70))
	for range 2000 {
		l := random(r)
		if at, e := Check(l); at != -1 || e != api.OK {
			t.Fatal(l, at, e)
		}
	}
}

// change is a change that makes a fault.
type change struct {
	e     api.Errno
	apply func(old, p *api.Plan)
}

// faults are changes of the second of the rich versions, or of the first one,
// in the order of the table.
func faults() []change {
	return []change{
		{api.ErrRange, func(_, p *api.Plan) { p.Version = 0 }},
		{api.ErrRange, func(_, p *api.Plan) { p.Version = -1 }},
		{api.ErrRange, func(_, p *api.Plan) { p.Version += 1 }},
		{api.ErrRange, func(_, p *api.Plan) { p.Version -= 1 }},
		{api.ErrRange, func(_, p *api.Plan) { p.In.Until = p.In.From }},
		{api.ErrRange, func(_, p *api.Plan) { p.In.Until = p.In.From - 1 }},
		{api.ErrRange, func(_, p *api.Plan) { p.In.Until = api.Forever + 1 }},
		{api.ErrRange, func(_, p *api.Plan) { p.In.From = -1 }},
		{api.ErrRange, func(_, p *api.Plan) { p.In = api.Span{From: math.MaxInt, Until: math.MinInt} }},
		{api.ErrTooLarge, func(_, p *api.Plan) { p.Classes = make([]api.Class, api.MaxClasses+1) }},
		{api.ErrTooLarge, func(_, p *api.Plan) { p.Moved = make([]api.Moved, api.MaxClasses+1) }},
		{api.ErrTooLarge, func(_, p *api.Plan) { p.Moved = slices.Repeat(moved("2", "3"), 5000) }},
		{api.ErrSyntax, func(_, p *api.Plan) { p.Classes[5].Code = "" }},
		{api.ErrSyntax, func(_, p *api.Plan) { p.Classes[5].Code = "x" }},
		{api.ErrSyntax, func(_, p *api.Plan) { p.Classes[5].Code = "04" }},
		{api.ErrSyntax, func(_, p *api.Plan) { p.Classes[5].Code = "1000" }},
		{api.ErrSyntax, func(_, p *api.Plan) { p.Classes[0].Code = "1.1.1.1.1.1.1" }},
		{api.ErrName, func(_, p *api.Plan) { p.Classes[5].Title = "" }},
		{api.ErrName, func(_, p *api.Plan) { p.Classes[0].Title = "x  y" }},
		{api.ErrName, func(_, p *api.Plan) { p.Classes[0].Title = " x" }},
		{api.ErrName, func(_, p *api.Plan) { p.Classes[0].Title = "x\n" }},
		{api.ErrName, func(_, p *api.Plan) { p.Classes[2].Title = strings.Repeat("x", api.MaxName+1) }},
		{api.ErrOrder, func(_, p *api.Plan) { p.Classes[4].Code = "3" }},
		{api.ErrOrder, func(_, p *api.Plan) { p.Classes[4].Code = "1" }},
		{api.ErrOrder, func(_, p *api.Plan) { p.Classes[1].Code = "10" }},
		{api.ErrOrder, func(_, p *api.Plan) { p.Classes[0], p.Classes[1] = p.Classes[1], p.Classes[0] }},
		{api.ErrNotFound, func(_, p *api.Plan) { p.Classes[1].Code = "1.2.1" }},
		{api.ErrNotFound, func(_, p *api.Plan) { p.Classes[2].Code = "2.1" }},
		{api.ErrNotFound, func(_, p *api.Plan) { p.Classes[len(p.Classes)-1].Code = "20.1" }},
		{api.ErrNotFound, func(_, p *api.Plan) { p.Classes[5].Code = "4.1.1.1.1.1" }},
	}
}

// movedFaults are such changes of the second version alone.
func movedFaults() []change {
	return []change{
		{api.ErrGap, func(_, p *api.Plan) { p.In.From-- }},
		{api.ErrGap, func(_, p *api.Plan) { p.In.From++ }},
		{api.ErrGap, func(_, p *api.Plan) { p.In.From = 0 }},
		{api.ErrGap, func(old, _ *api.Plan) { old.In.Until = 99 }},
		{api.ErrGap, func(old, _ *api.Plan) { old.In.Until = api.Forever }},
		{api.ErrNotFound, func(_, p *api.Plan) { p.Moved[2].From = "9" }},
		{api.ErrNotFound, func(_, p *api.Plan) { p.Moved[2].To = "7" }},
		{api.ErrNotFound, func(_, p *api.Plan) { p.Moved[0].From = "" }},
		{api.ErrNotFound, func(_, p *api.Plan) { p.Moved[1].To = "" }},
		{api.ErrNotFound, func(_, p *api.Plan) { p.Moved[0].From = "1.2" }},
		{api.ErrNotFound, func(_, p *api.Plan) { p.Moved[0].To = "1.1" }},
		{api.ErrOrder, func(_, p *api.Plan) { slices.Reverse(p.Moved) }},
		{api.ErrOrder, func(_, p *api.Plan) { p.Moved[1] = p.Moved[0] }},
		{api.ErrOrder, func(_, p *api.Plan) { p.Moved[0].From = "2" }},
		{api.ErrNoPlan, func(_, p *api.Plan) { p.Moved = p.Moved[:2] }},
		{api.ErrNoPlan, func(_, p *api.Plan) { p.Moved[2].From = "3" }},
		{api.ErrNoPlan, func(old, _ *api.Plan) {
			old.Classes = append(old.Classes, api.Class{Code: "10", Title: "x"})
		}},
		{api.ErrNoPlan, func(_, p *api.Plan) { p.Classes, p.Moved = nil, nil }},
		{api.ErrNoPlan, func(_, p *api.Plan) { p.Classes, p.Moved = p.Classes[2:], moved("2", "3", "7", "4") }},
	}
}

// silent checks that nothing is said about a list with a fault.
func silent(t *testing.T, l []api.Plan) {
	t.Helper()
	for _, day := range []int{-1, 0, 60, 100, 150, 250} {
		if at := At(l, day); at != -1 {
			t.Error(day, at)
		}
	}
	for _, x := range [][2]int{{1, 1}, {1, 2}, {2, 1}, {0, 9}} {
		for _, code := range []string{"1", "2", "9", ""} {
			if s, e := Follow(l, x[0], x[1], code); s != "" || e != api.ErrArg {
				t.Error(x, code, s, e)
			}
			if s, e := Sources(l, x[0], x[1], code); len(s) != 0 || e != api.ErrArg {
				t.Error(x, code, s, e)
			}
		}
	}
}

// P7.1, P7.3: each fault is found at its version.
func TestCheckFaults(t *testing.T) {
	for i, x := range append(faults(), movedFaults()...) {
		l := rich()
		x.apply(&l[0], &l[1])
		was := copied(l)
		if at, e := Check(l); at != 1 || e != x.e || !reflect.DeepEqual(l, was) {
			t.Error(i, at, e)
		}
		silent(t, l)
		// Of several versions with a fault the first one counts.
		l[2].Version = 0
		if at, e := Check(l); at != 1 || e != x.e {
			t.Error(i, at, e)
		}
		l[0].Version = 0
		if at, e := Check(l); at != 0 || e != api.ErrRange {
			t.Error(i, at, e)
		}
	}
	for i, x := range faults() {
		l := rich()
		x.apply(nil, &l[0])
		if at, e := Check(l); at != 0 || e != x.e {
			t.Error(i, at, e)
		}
		silent(t, l)
	}
}

// P7.1: the first version moves nothing, and too many versions have no index.
func TestCheckEdges(t *testing.T) {
	wrong := make([]api.Plan, api.MaxPlans+1)
	first := rich()
	first[0].Moved = moved("1", "1")
	none := []api.Plan{of(1, 0, 1)}
	none[0].Moved = moved("", "")
	for i, x := range []struct {
		l  []api.Plan
		at int
		e  api.Errno
	}{
		{wrong, -1, api.ErrTooLarge}, {make([]api.Plan, 5000), -1, api.ErrTooLarge}, {wrong[1:], 0, api.ErrRange},
		{first, 0, api.ErrArg}, {none, 0, api.ErrArg},
		// Nothing can stand behind a version without an end.
		{[]api.Plan{of(1, 0, api.Forever), of(2, api.Forever, api.Forever)}, 1, api.ErrRange},
		{[]api.Plan{of(1, 0, api.Forever), of(2, api.Forever, api.Forever+1)}, 1, api.ErrRange},
		{[]api.Plan{of(1, 0, api.Forever), of(2, 5, api.Forever)}, 1, api.ErrGap},
		{rich()[1:], 0, api.ErrRange},
	} {
		if at, e := Check(x.l); at != x.at || e != x.e {
			t.Error(i, at, e)
		}
		silent(t, x.l)
	}
}

// P7.1: of several faults of one version the first one of the table counts,
// whichever elements have them.
func TestCheckOrder(t *testing.T) {
	steps := []change{
		{api.ErrRange, func(_, p *api.Plan) { p.Version = 9 }},
		{api.ErrGap, func(_, p *api.Plan) { p.In.From = 101 }},
		{api.ErrTooLarge, func(_, p *api.Plan) {
			p.Moved = append(p.Moved, make([]api.Moved, api.MaxClasses)...)
		}},
		{api.ErrSyntax, func(_, p *api.Plan) { p.Classes[6].Code = "x" }},
		{api.ErrName, func(_, p *api.Plan) { p.Classes[5].Title = "" }},
		{api.ErrOrder, func(_, p *api.Plan) { p.Classes[4].Code = "3" }},
		{api.ErrNotFound, func(_, p *api.Plan) { p.Classes[1].Code, p.Moved[0].To = "1.2.1", "1.2.1" }},
		{api.ErrNotFound, func(_, p *api.Plan) { p.Moved = append(p.Moved, api.Moved{From: "9", To: "1"}) }},
		{api.ErrOrder, func(_, p *api.Plan) { p.Moved[0], p.Moved[1] = p.Moved[1], p.Moved[0] }},
		{api.ErrNoPlan, func(_, p *api.Plan) {
			p.Moved = slices.DeleteFunc(p.Moved, func(m api.Moved) bool { return m.From == "7" })
		}},
	}
	if at, e := Check(rich()); at != -1 || e != api.OK {
		t.Fatal(at, e)
	}
	for set := 1; set < 1<<len(steps); set++ {
		l := rich()
		want := api.OK
		for i, step := range steps {
			if set>>i&1 == 0 {
				continue
			}
			step.apply(&l[0], &l[1])
			if want == api.OK {
				want = step.e
			}
		}
		if at, e := Check(l); at != 1 || e != want {
			t.Errorf("%b %d %v %v", set, at, e, want)
		}
	}
}

// P7.1: the version in force.
func TestAt(t *testing.T) {
	for i, x := range []struct{ day, at int }{
		{49, -1}, {50, 0}, {99, 0}, {100, 1}, {199, 1}, {200, 2}, {api.MaxDay, 2}, {api.Forever, -1}, {0, -1}, {-1, -1}, {math.MinInt, -1}, {math.MaxInt, -1},
	} {
		if at := At(rich(), x.day); at != x.at {
			t.Error(i, at)
		}
	}
	if At(rich()[:2], 200) != -1 || At(nil, 0) != -1 {
		t.Error("no version")
	}
	r := rand.New(rand.NewSource(71))
	for range 500 {
		l := random(r)
		for day := -1; day < 20; day++ {
			want := -1
			for i, p := range l {
				if p.In.From <= day && day < p.In.Until {
					want = i
				}
			}
			if at := At(l, day); at != want {
				t.Fatal(l, day, at)
			}
		}
	}
}

// anything returns a version that can have all faults.
func anything(r *rand.Rand) api.Plan {
	texts := append([]string{"", "x", "1.", ".1", "1..1", "01", "1.x", "1.01", "1000", "1.1.1.1.1.1.1", "1.1.1.1.1.1", "1.1.1.1"}, pool()...)
	var p api.Plan
	for range r.Intn(12) {
		p.Classes = append(p.Classes, api.Class{Code: texts[r.Intn(len(texts))]})
	}
	for range r.Intn(5) {
		p.Moved = append(p.Moved, api.Moved{From: texts[r.Intn(len(texts))], To: texts[r.Intn(len(texts))]})
	}
	return p
}

// P7.1, P7.2, P7.4: Has, Next and Children take any versions.
func TestAnyVersions(t *testing.T) {
	r := rand.New(rand.NewSource(72))
	for range 3000 {
		old, next := anything(r), anything(r)
		was := copied([]api.Plan{old, next})
		for _, code := range append(codesOf(old), "", "x", "1", "2", "1.", "1.1.1", "1.x") {
			if got, want := Has(old, code), slices.Contains(codesOf(old), code); got != want {
				t.Fatal(old, code, got)
			}
			want, ok := nextModel(old, next, code)
			if got, is := Next(old, next, code); got != want || is != ok {
				t.Fatal(old, next, code, got, is)
			}
			if got, want := Children(old, code), childrenModel(old, code); !slices.Equal(got, want) {
				t.Fatal(old, code, got, want)
			}
		}
		if !reflect.DeepEqual([]api.Plan{old, next}, was) {
			t.Fatal("changed", old, next)
		}
	}
	many := api.Plan{Classes: make([]api.Class, 5000)}
	many.Classes[4999].Code = "1"
	if !Has(many, "1") || !Has(many, "") || Has(many, "2") || Has(api.Plan{}, "") || len(Children(many, "")) != 1 {
		t.Error("many")
	}
}

// childrenModel is Children by its definition.
func childrenModel(p api.Plan, code string) []string {
	var l []string
	for _, c := range codesOf(p) {
		parent := ""
		if dot := strings.LastIndex(c, "."); dot >= 0 {
			parent = c[:dot]
		}
		if form.MatchString(c) && parent == code {
			l = append(l, c)
		}
	}
	return l
}

// P7.2: which class is the next one.
func TestNext(t *testing.T) {
	old := of(1, 0, 1, "1", "1.1", "1.1.1", "1.1.1.1", "2", "2.1", "12", "x", "x.1", "")
	next := of(2, 1, 2, "1", "1.1.1", "2.1", "x")
	next.Moved = moved("1.1.1", "1", "2", "2.1", "2", "1", "x.1", "nowhere", "9", "1", "", "")
	for i, x := range []struct {
		code, want string
		ok         bool
	}{
		{"1", "1", true}, {"1.1", "1", true}, {"1.1.1", "1", true}, {"1.1.1.1", "1.1.1", true}, {"2", "2.1", true}, {"2.1", "2.1", true},
		// 12 begins with the byte 1, but is not within 1.
		{"12", "", false}, {"x", "x", true}, {"x.1", "nowhere", true}, {"", "", true}, {"9", "", false}, {"1.1.1.1.1", "", false}, {"3", "", false},
	} {
		if got, ok := Next(old, next, x.code); got != x.want || ok != x.ok {
			t.Error(i, got, ok)
		}
	}
	old.Moved = moved("1", "2")
	if got, ok := Next(old, next, "1"); got != "1" || !ok {
		t.Error(got, ok)
	}
	if got, ok := Next(old, api.Plan{}, "1"); got != "" || ok {
		t.Error(got, ok)
	}
	if got, ok := Next(api.Plan{}, next, "1"); got != "" || ok {
		t.Error(got, ok)
	}
}

// P7.2, P7.3, P7.4: the chapter's example.
func TestExample(t *testing.T) {
	l := example()
	for code, want := range map[string]string{"1": "1", "1.1": "1", "1.2": "1.2", "2": "3"} {
		if got, e := Follow(l, 1, 2, code); got != want || e != api.OK {
			t.Error(code, got, e)
		}
		if got, ok := Next(l[0], l[1], code); got != want || !ok {
			t.Error(code, got, ok)
		}
	}
	for code, want := range map[string][]string{"1": {"1", "1.1"}, "1.2": {"1.2"}, "2": nil, "3": {"2"}} {
		if got, e := Sources(l, 1, 2, code); !slices.Equal(got, want) || e != api.OK {
			t.Error(code, got, e)
		}
	}
	for code, want := range map[string][]string{"": {"1", "2"}, "1": {"1.1", "1.2"}, "1.1": nil, "2": nil, "9": nil} {
		if got := Children(l[0], code); !slices.Equal(got, want) {
			t.Error(code, got)
		}
	}
	if !reflect.DeepEqual(l, example()) {
		t.Error("changed")
	}
}

// P7.3: what Follow and Sources refuse.
func TestFollowErrors(t *testing.T) {
	l := example()
	for i, x := range []struct {
		from, to int
		code     string
	}{
		{0, 1, "1"}, {0, 0, "1"}, {1, 0, "1"}, {1, 3, "1"}, {3, 3, "1"}, {3, 1, "1"}, {2, 1, "1"}, {-1, 1, "1"}, {1, -1, "1"},
		{math.MinInt, math.MaxInt, "1"}, {math.MaxInt, math.MinInt, "1"}, {1, math.MaxInt, "1"}, {math.MinInt, 1, "1"},
		{1, 2, "9"}, {1, 2, ""}, {1, 2, "x"}, {1, 1, "3"}, {2, 2, "1.1"}, {1, 2, "1.1.1"},
	} {
		if s, e := Follow(l, x.from, x.to, x.code); s != "" || e != api.ErrNotFound {
			t.Error(i, s, e)
		}
		if s, e := Sources(l, x.from, x.to, x.code); len(s) != 0 || e != api.ErrNotFound {
			t.Error(i, s, e)
		}
	}
	// A class that only one of both versions has.
	if s, e := Follow(l, 1, 2, "3"); s != "" || e != api.ErrNotFound {
		t.Error(s, e)
	}
	if s, e := Sources(l, 1, 2, "1.1"); len(s) != 0 || e != api.ErrNotFound {
		t.Error(s, e)
	}
	for _, none := range [][]api.Plan{nil, {}} {
		if s, e := Follow(none, 1, 1, "1"); s != "" || e != api.ErrNotFound {
			t.Error(s, e)
		}
		if s, e := Sources(none, 1, 1, "1"); len(s) != 0 || e != api.ErrNotFound {
			t.Error(s, e)
		}
	}
}

// P7.3, P7.5: following by the definition; following twice is following once;
// the sources of all classes are all classes, each once, in order.
func TestFollow(t *testing.T) {
	r := rand.New(rand.NewSource(73))
	far := 0
	for range 200 {
		l := random(r)
		was := copied(l)
		for from := 1; from <= len(l); from++ {
			for to := from; to <= len(l); to++ {
				far = max(far, to-from)
				checkWayOf(t, l, from, to)
			}
		}
		if !reflect.DeepEqual(l, was) {
			t.Fatal("changed", l)
		}
	}
	if far != 4 {
		t.Error(far)
	}
}

// checkWayOf checks Follow and Sources from a version to another one.
func checkWayOf(t *testing.T, l []api.Plan, from, to int) {
	t.Helper()
	count := 0
	for _, code := range codesOf(l[to-1]) {
		var want []string
		for _, c := range codesOf(l[from-1]) {
			if followModel(l, from, to, c) == code {
				want = append(want, c)
			}
		}
		got, e := Sources(l, from, to, code)
		if !slices.Equal(got, want) || e != api.OK {
			t.Fatal(l, from, to, code, got, e)
		}
		count += len(got)
	}
	if count != len(l[from-1].Classes) {
		t.Fatal(l, from, to, count)
	}
	for _, code := range codesOf(l[from-1]) {
		got, e := Follow(l, from, to, code)
		if got != followModel(l, from, to, code) || e != api.OK || !Has(l[to-1], got) {
			t.Fatal(l, from, to, code, got, e)
		}
		middle := (from + to) / 2
		half, _ := Follow(l, from, middle, code)
		if again, e := Follow(l, middle, to, half); again != got || e != api.OK {
			t.Fatal(l, from, middle, to, code, again, e)
		}
	}
}
