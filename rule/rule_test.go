package rule

import (
	"fmt"
	"math"
	"math/rand"
	"regexp"
	"slices"
	"strconv"
	"strings"
	"testing"

	"archivum/api"
	"archivum/day"
)

// form is the form of class codes.
var form = regexp.MustCompile(`\A[1-9][0-9]{0,2}(\.[1-9][0-9]{0,2}){0,5}\z`)

// pattern is the form of lines, but for class codes and dates.
var pattern = regexp.MustCompile(`\Arule (0|[1-9][0-9]*) class (\S+) (?:keep|after "([^"\n]*)" (0|[1-9][0-9]*) years (end )?(destroy|transfer)) from (\S+)(?: until (\S+))?\n\z`)

// at returns the day of a date.
func at(t *testing.T, text string) int {
	t.Helper()
	d, e := day.Parse(text)
	if e != api.OK {
		t.Fatal(text, e)
	}
	return d
}

// example returns the rule of the chapter's example.
func example(t *testing.T) api.Rule {
	return api.Rule{ID: 12, Class: "3.1", Trigger: "closed", Years: 10, YearEnd: true, Action: api.ActionDestroy, In: api.Span{From: at(t, "1990-01-01"), Until: at(t, "2005-01-01")}}
}

// of returns a rule that destroys.
func of(id int, class string, from, until int) api.Rule {
	return api.Rule{ID: id, Class: class, Trigger: "closed", Years: 5, Action: api.ActionDestroy, In: api.Span{From: from, Until: until}}
}

// rich returns three rules without a fault.
func rich() []api.Rule {
	l := []api.Rule{of(3, "1", 10, 30), of(7, "1.2", 20, api.Forever), of(api.MaxID, "2", 0, 1)}
	l[1].YearEnd = true
	l[2].Action = api.ActionTransfer
	return l
}

// classes are some codes that are within others.
func classes() []string {
	return []string{"1", "1.1", "1.1.1", "1.1.10", "1.10", "1.10.1", "2", "10", "10.1", "11.1.1.1.1.1"}
}

// names are some names.
func names() []string {
	return []string{"opened", "closed", "last payment", "x", "years", "end destroy", "~!'", strings.Repeat("x", api.MaxName)}
}

// random returns rules without a fault.
func random(r *rand.Rand) []api.Rule {
	var l []api.Rule
	id := 0
	for range r.Intn(7) {
		id += 1 + r.Intn(30)
		from := r.Intn(12)
		x := api.Rule{ID: id, Class: classes()[r.Intn(10)], Trigger: "opened", Action: api.ActionKeep, In: api.Span{From: from, Until: from + 1 + r.Intn(12)}}
		if r.Intn(3) > 0 {
			x.Trigger, x.Years, x.YearEnd, x.Action = names()[r.Intn(8)], r.Intn(201), r.Intn(2) == 0, 1+r.Intn(2)
		}
		if r.Intn(4) == 0 {
			x.In.Until = api.Forever
		}
		l = append(l, x)
	}
	return l
}

// anything returns rules that can have all faults.
func anything(r *rand.Rand) []api.Rule {
	texts := append(classes(), "", "x", "01", "1.", "1.1.1.1.1.1.1", "1000")
	l := make([]api.Rule, r.Intn(90))
	for i := range l {
		l[i] = api.Rule{ID: r.Intn(9) - 2, Class: texts[r.Intn(len(texts))], Trigger: "\"", Years: -1, Action: r.Intn(6) - 1, In: api.Span{From: r.Intn(14) - 3, Until: r.Intn(14) - 3}}
	}
	return l
}

// P9.1: which lists have no fault.
func TestCheckGood(t *testing.T) {
	var most []api.Rule
	for id := 1; id <= api.MaxRules; id++ {
		most = append(most, of(id, "1", 0, 1))
	}
	lists := [][]api.Rule{nil, {}, {example(t)}, rich(), most}
	for _, change := range []func(r *api.Rule){
		func(r *api.Rule) { r.ID = 1 },
		func(r *api.Rule) { r.ID = api.MaxID },
		func(r *api.Rule) { r.Years = 0 },
		func(r *api.Rule) { r.Years = api.MaxYears },
		func(r *api.Rule) { r.Action = api.ActionTransfer },
		func(r *api.Rule) { r.Trigger = "opened" },
		func(r *api.Rule) { r.Trigger = strings.Repeat("x", api.MaxName) },
		func(r *api.Rule) { r.Class = "999.999.999.999.999.999" },
		func(r *api.Rule) { r.In = api.Span{From: 0, Until: 1} },
		func(r *api.Rule) { r.In = api.Span{From: 0, Until: api.Forever} },
		func(r *api.Rule) { r.In = api.Span{From: api.MaxDay, Until: api.Forever} },
		func(r *api.Rule) { r.Trigger, r.Years, r.YearEnd, r.Action = "opened", 0, false, api.ActionKeep },
	} {
		r := example(t)
		change(&r)
		lists = append(lists, []api.Rule{r})
	}
	for i, l := range lists {
		was := slices.Clone(l)
		if k, e := Check(l); k != -1 || e != api.OK || !slices.Equal(l, was) {
			t.Error(i, k, e)
		}
	}
	r := rand.New(rand.NewSource(90))
	for range 500 {
		l := random(r)
		if k, e := Check(l); k != -1 || e != api.OK {
			t.Fatal(l, k, e)
		}
	}
}

// change is a change that makes a fault.
type change struct {
	e     api.Errno
	apply func(r *api.Rule)
}

// faults are changes of the second of the rich rules, in the order of the table.
func faults() []change {
	var l []change
	add := func(e api.Errno, all ...func(r *api.Rule)) {
		for _, apply := range all {
			l = append(l, change{e, apply})
		}
	}
	for _, n := range []int{0, -1, math.MinInt, api.MaxID + 1, math.MaxInt} {
		add(api.ErrRange, func(r *api.Rule) { r.ID = n })
	}
	for _, n := range []int{-1, api.MaxYears + 1, math.MinInt, math.MaxInt} {
		add(api.ErrRange, func(r *api.Rule) { r.Years = n })
	}
	for _, n := range []int{0, 4, -1, math.MinInt, math.MaxInt} {
		add(api.ErrRange, func(r *api.Rule) { r.Action = n })
	}
	for _, in := range []api.Span{{From: 5, Until: 5}, {From: 6, Until: 5}, {From: -1, Until: 5}, {From: 5, Until: api.Forever + 1}, {From: api.Forever, Until: api.Forever}, {From: math.MaxInt, Until: math.MinInt}, {}} {
		add(api.ErrRange, func(r *api.Rule) { r.In = in })
	}
	add(api.ErrOrder, func(r *api.Rule) { r.ID = 3 }, func(r *api.Rule) { r.ID = 1 })
	for _, s := range []string{"", "x", "01", "1.", ".1", "1..2", "1000", "0", "1.1.1.1.1.1.1", " 1", "+1"} {
		add(api.ErrSyntax, func(r *api.Rule) { r.Class = s })
	}
	for _, s := range []string{"", " x", "x ", "x  y", "x\n", "\x7f", strings.Repeat("x", api.MaxName+1), "\"", "a\"b", "\"a", "a\""} {
		add(api.ErrName, func(r *api.Rule) { r.Trigger = s })
	}
	keep := func(r *api.Rule) { r.Trigger, r.Years, r.YearEnd, r.Action = "opened", 0, false, api.ActionKeep }
	add(api.ErrArg,
		func(r *api.Rule) { keep(r); r.Trigger = "closed" },
		func(r *api.Rule) { keep(r); r.Trigger = "Opened" },
		func(r *api.Rule) { keep(r); r.Years = 1 },
		func(r *api.Rule) { keep(r); r.YearEnd = true },
		func(r *api.Rule) { r.Action = api.ActionKeep })
	return l
}

// silent checks that no function takes a list with a fault.
func silent(t *testing.T, l []api.Rule) {
	t.Helper()
	if s, e := Print(l); s != "" || e != api.ErrArg {
		t.Error(s, e)
	}
	for _, id := range []int{3, 7, 0, 99} {
		for _, d := range []int{25, -1, 0, api.Forever + 1} {
			if got, e := End(l, id, d); len(got) != 0 || e != api.ErrArg {
				t.Error(id, d, got, e)
			}
		}
	}
}

// P9.1, P9.2, P9.4: each fault is found at its rule, and of several rules with a
// fault the first one counts.
func TestCheckFaults(t *testing.T) {
	for i, x := range faults() {
		l := rich()
		x.apply(&l[1])
		was := slices.Clone(l)
		if k, e := Check(l); k != 1 || e != x.e || !slices.Equal(l, was) {
			t.Error(i, k, e)
		}
		silent(t, l)
		l[2].Years = -1
		if k, e := Check(l); k != 1 || e != x.e {
			t.Error(i, k, e)
		}
		l[0].Trigger = ""
		if k, e := Check(l); k != 0 || e != api.ErrName {
			t.Error(i, k, e)
		}
	}
	for i, x := range []struct {
		l []api.Rule
		k int
		e api.Errno
	}{
		{make([]api.Rule, api.MaxRules+1), -1, api.ErrTooLarge}, {make([]api.Rule, 5000), -1, api.ErrTooLarge}, {make([]api.Rule, api.MaxRules), 0, api.ErrRange},
	} {
		if k, e := Check(x.l); k != x.k || e != x.e {
			t.Error(i, k, e)
		}
		silent(t, x.l)
	}
}

// P9.1: of several faults of one rule the first one of the table counts.
func TestCheckOrder(t *testing.T) {
	steps := []change{
		{api.ErrRange, func(r *api.Rule) { r.In.Until = r.In.From }},
		{api.ErrOrder, func(r *api.Rule) { r.ID = 3 }},
		{api.ErrSyntax, func(r *api.Rule) { r.Class = "x" }},
		{api.ErrName, func(r *api.Rule) { r.Trigger = "a\"" }},
		{api.ErrArg, func(r *api.Rule) { r.Action = api.ActionKeep }},
	}
	for set := 1; set < 1<<len(steps); set++ {
		l := rich()
		want := api.OK
		for i, step := range steps {
			if set>>i&1 == 0 {
				continue
			}
			step.apply(&l[1])
			if want == api.OK {
				want = step.e
			}
		}
		if k, e := Check(l); k != 1 || e != want {
			t.Errorf("%b %d %v %v", set, k, e, want)
		}
	}
}

// P9.1: the first rule with an ID, in any list.
func TestFind(t *testing.T) {
	l := []api.Rule{{ID: 4}, {ID: 2, Class: "1"}, {ID: 2}, {ID: -1}, {ID: 0}}
	for i, x := range []struct{ id, at int }{{4, 0}, {2, 1}, {-1, 3}, {0, 4}, {3, -1}, {math.MinInt, -1}, {math.MaxInt, -1}} {
		if k := Find(l, x.id); k != x.at {
			t.Error(i, k)
		}
	}
	if Find(nil, 0) != -1 || Find(rich(), 7) != 1 {
		t.Error("Find")
	}
}

// lineModel is the line of a rule by its definition.
func lineModel(r api.Rule) string {
	from, _ := day.Format(r.In.From)
	tail := "from " + from
	if r.In.Until < api.Forever {
		until, _ := day.Format(r.In.Until)
		tail += " until " + until
	}
	if r.Action == api.ActionKeep {
		return fmt.Sprintf("rule %d class %s keep %s\n", r.ID, r.Class, tail)
	}
	end := map[bool]string{true: "end "}[r.YearEnd]
	action := map[int]string{api.ActionDestroy: "destroy", api.ActionTransfer: "transfer"}[r.Action]
	return fmt.Sprintf("rule %d class %s after \"%s\" %d years %s%s %s\n", r.ID, r.Class, r.Trigger, r.Years, end, action, tail)
}

// P9.2: the text of rules, and the rules of a text.
func TestText(t *testing.T) {
	keep := api.Rule{ID: api.MaxID, Class: "999.1", Trigger: "opened", Action: api.ActionKeep, In: api.Span{From: api.MaxDay, Until: api.Forever}}
	last := api.Rule{ID: 2, Class: "1", Trigger: "years end", Years: 200, Action: api.ActionTransfer, In: api.Span{From: 0, Until: api.MaxDay}}
	for i, x := range []struct {
		l    []api.Rule
		text string
	}{
		{nil, ""},
		{[]api.Rule{example(t)}, "rule 12 class 3.1 after \"closed\" 10 years end destroy from 1990-01-01 until 2005-01-01\n"},
		{[]api.Rule{keep}, "rule 1073741824 class 999.1 keep from 4470-11-25\n"},
		{[]api.Rule{last, keep}, "rule 2 class 1 after \"years end\" 200 years transfer from 1600-01-01 until 4470-11-25\nrule 1073741824 class 999.1 keep from 4470-11-25\n"},
	} {
		if s, e := Print(x.l); s != x.text || e != api.OK {
			t.Error(i, s, e)
		}
		if l, k, e := Parse(x.text); !slices.Equal(l, x.l) || k != -1 || e != api.OK {
			t.Error(i, l, k, e)
		}
	}
	var most []api.Rule
	for id := api.MaxID - api.MaxRules + 1; id <= api.MaxID; id++ {
		most = append(most, api.Rule{ID: id, Class: "999.999.999.999.999.999", Trigger: strings.Repeat("x", api.MaxName), Years: 200, YearEnd: true, Action: api.ActionTransfer, In: api.Span{From: 1, Until: api.MaxDay}})
	}
	s, e := Print(most)
	if e != api.OK || strings.Count(s, "\n") != api.MaxRules {
		t.Error(s, e)
	}
	if l, k, e := Parse(s); !slices.Equal(l, most) || k != -1 || e != api.OK {
		t.Error(l, k, e)
	}
}

// P9.2, P9.5: rules without a fault have the defined text, and are restored.
func TestEveryText(t *testing.T) {
	r := rand.New(rand.NewSource(91))
	for range 2000 {
		l := random(r)
		was := slices.Clone(l)
		want := ""
		for _, x := range l {
			want += lineModel(x)
		}
		s, e := Print(l)
		if s != want || e != api.OK || !slices.Equal(l, was) {
			t.Fatal(l, s, e)
		}
		if got, k, e := Parse(s); !slices.Equal(got, l) || k != -1 || e != api.OK {
			t.Fatal(s, got, k, e)
		}
	}
}

// P9.2: which lines have no form, and which rules a fault.
func TestParseErrors(t *testing.T) {
	good := "rule 2 class 1 keep from 1600-02-03\n"
	for i, x := range []struct {
		text string
		k    int
		e    api.Errno
	}{
		{good + "rule 3 class 1 after \"x\" 0 years transfer from 1600-01-01 until 4470-11-25\n", -1, api.OK},
		{strings.TrimSuffix(good, "\n"), 0, api.ErrSyntax}, {"\n", 0, api.ErrSyntax}, {"x", 0, api.ErrSyntax}, {good + "\n", 1, api.ErrSyntax}, {good + " ", 1, api.ErrSyntax}, {"\n" + good, 0, api.ErrSyntax}, {good + good + good + "rule\n" + good, 3, api.ErrSyntax},
		{"rule 2 class 1 keep from 1600-02-03\r\n", 0, api.ErrSyntax}, {" " + good, 0, api.ErrSyntax}, {"Rule 2 class 1 keep from 1600-02-03\n", 0, api.ErrSyntax}, {"2 class 1 keep from 1600-02-03\n", 0, api.ErrSyntax},
		{"rule  2 class 1 keep from 1600-02-03\n", 0, api.ErrSyntax}, {"rule 2 class 1 keep from 1600-02-03 \n", 0, api.ErrSyntax}, {"rule 2 class  keep from 1600-02-03\n", 0, api.ErrSyntax},
		// Numbers from 0 to MaxID, decimal and without leading zeros.
		{"rule 1073741824 class 1 keep from 1600-02-03\n", -1, api.OK}, {"rule 1073741825 class 1 keep from 1600-02-03\n", 0, api.ErrSyntax}, {"rule 99999999999999999999 class 1 keep from 1600-02-03\n", 0, api.ErrSyntax},
		{"rule -1 class 1 keep from 1600-02-03\n", 0, api.ErrSyntax}, {"rule +1 class 1 keep from 1600-02-03\n", 0, api.ErrSyntax}, {"rule 01 class 1 keep from 1600-02-03\n", 0, api.ErrSyntax}, {"rule 0x1 class 1 keep from 1600-02-03\n", 0, api.ErrSyntax},
		{"rule 1_0 class 1 keep from 1600-02-03\n", 0, api.ErrSyntax}, {"rule  class 1 keep from 1600-02-03\n", 0, api.ErrSyntax}, {"rule 00 class 1 keep from 1600-02-03\n", 0, api.ErrSyntax}, {"rule 0 class 1 keep from 1600-02-03\n", -1, api.ErrArg},
		{"rule 1 class 1 after \"x\" 00 years destroy from 1600-02-03\n", 0, api.ErrSyntax}, {"rule 1 class 1 after \"x\" 1073741825 years destroy from 1600-02-03\n", 0, api.ErrSyntax}, {"rule 1 class 1 after \"x\" 1073741824 years destroy from 1600-02-03\n", -1, api.ErrArg},
		{"rule 1 class 1 after \"x\" 201 years destroy from 1600-02-03\n", -1, api.ErrArg}, {"rule 1 class 1 after \"x\" -1 years destroy from 1600-02-03\n", 0, api.ErrSyntax},
		// Class codes, triggers and actions.
		{"rule 1 class x keep from 1600-02-03\n", 0, api.ErrSyntax}, {"rule 1 class 1. keep from 1600-02-03\n", 0, api.ErrSyntax}, {"rule 1 class 1.1.1.1.1.1.1 keep from 1600-02-03\n", 0, api.ErrSyntax},
		{"rule 1 class 1 after x 1 years destroy from 1600-02-03\n", 0, api.ErrSyntax}, {"rule 1 class 1 after \"x 1 years destroy from 1600-02-03\n", 0, api.ErrSyntax}, {"rule 1 class 1 after x\" 1 years destroy from 1600-02-03\n", 0, api.ErrSyntax}, {"rule 1 class 1 after \"x\"1 years destroy from 1600-02-03\n", 0, api.ErrSyntax},
		{"rule 1 class 1 after \"x\"y\" 1 years destroy from 1600-02-03\n", 0, api.ErrSyntax}, {"rule 1 class 1 after  \"x\" 1 years destroy from 1600-02-03\n", 0, api.ErrSyntax}, {"rule 1 class 1 after \"x\ny\" 1 years destroy from 1600-02-03\n", 0, api.ErrSyntax},
		{"rule 1 class 1 after \"\" 1 years destroy from 1600-02-03\n", -1, api.ErrArg}, {"rule 1 class 1 after \"x  y\" 1 years destroy from 1600-02-03\n", -1, api.ErrArg}, {"rule 1 class 1 after \"x\t\" 1 years destroy from 1600-02-03\n", -1, api.ErrArg}, {"rule 1 class 1 after \"\xff\" 1 years destroy from 1600-02-03\n", -1, api.ErrArg},
		{"rule 1 class 1 after \"x\" 1 years keep from 1600-02-03\n", 0, api.ErrSyntax}, {"rule 1 class 1 after \"opened\" 0 years keep from 1600-02-03\n", 0, api.ErrSyntax}, {"rule 1 class 1 keep destroy from 1600-02-03\n", 0, api.ErrSyntax}, {"rule 1 class 1 destroy from 1600-02-03\n", 0, api.ErrSyntax},
		{"rule 1 class 1 end keep from 1600-02-03\n", 0, api.ErrSyntax}, {"rule 1 class 1 after \"x\" 1 years end end destroy from 1600-02-03\n", 0, api.ErrSyntax}, {"rule 1 class 1 after \"x\" 1 years end from 1600-02-03\n", 0, api.ErrSyntax}, {"rule 1 class 1 after \"x\" 1 years  destroy from 1600-02-03\n", 0, api.ErrSyntax},
		// Dates.
		{"rule 1 class 1 keep\n", 0, api.ErrSyntax}, {"rule 1 class 1 keep from\n", 0, api.ErrSyntax}, {"rule 1 class 1 keep from \n", 0, api.ErrSyntax}, {"rule 1 class 1 keep until 1600-02-03\n", 0, api.ErrSyntax}, {"rule 1 class 1 keep from 1601-02-29\n", 0, api.ErrSyntax}, {"rule 1 class 1 keep from 1600-2-3\n", 0, api.ErrSyntax},
		{"rule 1 class 1 keep from 1600-02-03 until\n", 0, api.ErrSyntax}, {"rule 1 class 1 keep from 1600-02-03 until 1700-02-29\n", 0, api.ErrSyntax}, {"rule 1 class 1 keep from 1600-02-03 until 4470-11-26\n", 0, api.ErrSyntax}, {"rule 1 class 1 keep from 1600-02-03 until 1601-01-01 until 1602-01-01\n", 0, api.ErrSyntax},
		{"rule 1 class 1 keep from 1600-02-03 until 1600-02-03\n", -1, api.ErrArg}, {"rule 1 class 1 keep from 1600-02-03 until 1600-02-02\n", -1, api.ErrArg},
		// Lists: what has no form goes ahead of faults.
		{good + good, -1, api.ErrArg}, {good + good + "x\n", 2, api.ErrSyntax}, {strings.Repeat(good, api.MaxRules+1), -1, api.ErrArg}, {strings.Repeat(good, 1000) + "x", 1000, api.ErrSyntax},
		{strings.Repeat("\n", api.MaxData), 0, api.ErrSyntax}, {strings.Repeat("\n", api.MaxData+1), -1, api.ErrTooLarge}, {strings.Repeat(good, 5000), -1, api.ErrTooLarge},
	} {
		if l, k, e := Parse(x.text); k != x.k || e != x.e || e != api.OK && len(l) != 0 {
			t.Error(i, l, k, e)
		}
	}
}

// parseModel returns the rule with a line by the form of lines.
func parseModel(line string) (api.Rule, bool) {
	m := pattern.FindStringSubmatch(line)
	if m == nil || !form.MatchString(m[2]) {
		return api.Rule{}, false
	}
	r := api.Rule{Class: m[2], Trigger: "opened", Action: api.ActionKeep, In: api.Span{Until: api.Forever}}
	var e, f, g, h error
	r.ID, e = strconv.Atoi(m[1])
	if m[6] != "" {
		r.Trigger, r.YearEnd = m[3], m[5] != ""
		r.Action = map[string]int{"destroy": api.ActionDestroy, "transfer": api.ActionTransfer}[m[6]]
		r.Years, f = strconv.Atoi(m[4])
	}
	date := func(s string) (int, error) {
		d, e := day.Parse(s)
		if e != api.OK {
			return 0, strconv.ErrSyntax
		}
		return d, nil
	}
	r.In.From, g = date(m[7])
	if m[8] != "" {
		r.In.Until, h = date(m[8])
	}
	ok := e == nil && f == nil && g == nil && h == nil && r.ID <= api.MaxID && r.Years <= api.MaxID
	return r, ok
}

// P9.2, P9.5: a line is read exactly if it has its form, and what is read is
// printed as the same text.
func TestForms(t *testing.T) {
	accepted := 0
	check := func(line string) {
		l, k, e := Parse(line)
		r, ok := parseModel(line)
		_, fault := Check([]api.Rule{r})
		switch {
		case !ok:
			if len(l) != 0 || k < 0 || e != api.ErrSyntax {
				t.Fatalf("%q %v %v %v", line, l, k, e)
			}
		case fault != api.OK:
			if len(l) != 0 || k != -1 || e != api.ErrArg {
				t.Fatalf("%q %v %v %v", line, l, k, e)
			}
		default:
			if !slices.Equal(l, []api.Rule{r}) || k != -1 || e != api.OK {
				t.Fatalf("%q %v %v %v", line, l, k, e)
			}
			if s, e := Print(l); s != line || e != api.OK {
				t.Fatalf("%q %q %v", line, s, e)
			}
			accepted++
		}
	}
	lines := []string{
		"rule 12 class 3.1 after \"closed\" 10 years end destroy from 1990-01-01 until 2005-01-01\n",
		"rule 8 class 10.2 after \"last payment\" 0 years transfer from 1600-01-01\n",
		"rule 9 class 2 keep from 1923-02-28 until 1924-02-29\n",
	}
	for _, line := range lines {
		check(line)
		for i := range len(line) {
			check(line[:i] + line[i+1:])
			check(line[:i+1])
			for _, c := range []string{"0", "1", "9", "-", ".", " ", "\"", "\n", "a", "d", "\x00", "\xff", " end", " until 1999-01-01", " 3"} {
				check(line[:i] + c + line[i:])
				check(line[:i] + c + line[i+1:])
			}
		}
		words := strings.Split(strings.TrimSuffix(line, "\n"), " ")
		for i := range words {
			for k := range words {
				swapped := slices.Clone(words)
				swapped[i], swapped[k] = swapped[k], swapped[i]
				check(strings.Join(swapped, " ") + "\n")
			}
			check(strings.Join(slices.Delete(slices.Clone(words), i, i+1), " ") + "\n")
			check(strings.Join(slices.Insert(slices.Clone(words), i, words[i]), " ") + "\n")
		}
	}
	if accepted < 100 {
		t.Error(accepted)
	}
}

// applyModel returns the rules that apply by their definition.
func applyModel(l []api.Rule, code string, day int) []int {
	var ids []int
	most := 0
	for _, r := range l {
		within := form.MatchString(code) && form.MatchString(r.Class) && strings.HasPrefix(code+".", r.Class+".")
		numbers := 1 + strings.Count(r.Class, ".")
		if day < r.In.From || day >= r.In.Until || !within || numbers < most {
			continue
		}
		if numbers > most {
			most, ids = numbers, nil
		}
		ids = append(ids, r.ID)
	}
	return ids
}

// P9.3: which rules apply in the examples.
func TestApply(t *testing.T) {
	l := []api.Rule{of(2, "1", 10, 30), of(3, "1.2", 20, 40), of(5, "1.2", 25, api.Forever), of(6, "1.20", 0, 20), of(8, "1.2.3.4.5.6", 28, 29)}
	for i, x := range []struct {
		code string
		day  int
		want []int
	}{
		{"1.2.1", 9, nil}, {"1.2.1", 10, []int{2}}, {"1.2.1", 19, []int{2}}, {"1.2.1", 20, []int{3}}, {"1.2", 25, []int{3, 5}}, {"1.2", 39, []int{3, 5}}, {"1.2", 40, []int{5}}, {"1.2", api.MaxDay, []int{5}}, {"1.2", api.Forever, nil},
		{"1", 25, []int{2}}, {"1", 29, []int{2}}, {"1", 30, nil}, {"1.20", 15, []int{6}}, {"1.20", 20, []int{2}}, {"1.20.5", 19, []int{6}}, {"1.2.3.4.5.6", 28, []int{8}}, {"1.2.3.4.5.6", 29, []int{3, 5}}, {"1.2.3.4.5", 28, []int{3, 5}},
		{"2", 25, nil}, {"12", 25, nil}, {"x", 25, nil}, {"", 25, nil}, {"1.", 25, nil}, {"1.2.x", 25, nil}, {"01", 25, nil}, {"1.2.3.4.5.6.7", 28, nil}, {"1", -1, nil}, {"1", math.MinInt, nil}, {"1", math.MaxInt, nil},
	} {
		if ids := Apply(l, x.code, x.day); !slices.Equal(ids, x.want) {
			t.Error(i, ids)
		}
	}
	r := []api.Rule{example(t), of(13, "3.1.4", at(t, "2000-01-01"), api.Forever)}
	if ids := Apply(r, "3.1.4", at(t, "1999-12-31")); !slices.Equal(ids, []int{12}) {
		t.Error(ids)
	}
	if ids := Apply(r, "3.1.4", at(t, "2000-01-01")); !slices.Equal(ids, []int{13}) {
		t.Error(ids)
	}
	if ids := Apply(nil, "1", 5); len(ids) != 0 {
		t.Error(ids)
	}
}

// P9.3, P9.5: which rules of any lists apply, and that they have one class.
func TestApplyAny(t *testing.T) {
	r := rand.New(rand.NewSource(92))
	for i := range 2000 {
		l := random(r)
		if i%2 == 0 {
			l = anything(r)
		}
		was := slices.Clone(l)
		for _, code := range append(classes(), "", "x", "1.1.1.1", "1.1.x", "01") {
			for d := -4; d < 26; d += 1 + r.Intn(4) {
				ids := Apply(l, code, d)
				if !slices.Equal(ids, applyModel(l, code, d)) {
					t.Fatal(l, code, d, ids)
				}
				if i%2 == 0 || len(ids) == 0 {
					continue
				}
				for _, id := range ids {
					if l[Find(l, id)].Class != l[Find(l, ids[0])].Class {
						t.Fatal(l, code, d, ids)
					}
				}
			}
		}
		if !slices.Equal(l, was) {
			t.Fatal("changed", l)
		}
	}
}

// P9.3: due days.
func TestDue(t *testing.T) {
	for i, x := range []struct {
		years      int
		end        bool
		last, want string
	}{
		{10, true, "1991-05-06", "2001-12-31"}, {10, false, "1991-05-06", "2001-05-06"}, {0, false, "1991-05-06", "1991-05-06"}, {0, true, "1991-05-06", "1991-12-31"}, {0, true, "1991-12-31", "1991-12-31"}, {0, true, "1991-01-01", "1991-12-31"},
		{1, false, "1992-02-29", "1993-02-28"}, {4, false, "1992-02-29", "1996-02-29"}, {8, true, "1992-02-29", "2000-12-31"}, {200, false, "1600-02-29", "1800-02-28"},
		{200, false, "4270-11-25", "4470-11-25"}, {200, false, "4270-11-26", "4470-11-25"}, {200, true, "4270-01-01", "4470-11-25"}, {199, true, "4270-01-01", "4469-12-31"}, {0, false, "4470-11-25", "4470-11-25"}, {0, true, "4470-01-01", "4470-11-25"},
	} {
		r := example(t)
		r.Years, r.YearEnd = x.years, x.end
		last := at(t, x.last)
		for _, first := range []int{0, last / 2, last} {
			if d, e := Due(r, api.Dating{First: first, Last: last}); d != at(t, x.want) || e != api.OK {
				t.Error(i, first, d, e)
			}
		}
	}
	keep := api.Rule{ID: 1, Class: "1", Trigger: "opened", Action: api.ActionKeep, In: api.Span{From: 0, Until: 1}}
	if d, e := Due(keep, api.Dating{First: 3, Last: 7}); d != 7 || e != api.OK {
		t.Error(d, e)
	}
}

// P9.3: the due day of no rule with a fault, and of no dating that is not valid.
func TestDueErrors(t *testing.T) {
	fine := api.Dating{First: 3, Last: 7}
	for i, x := range faults() {
		r := rich()[1]
		x.apply(&r)
		// A rule alone has no rule before it.
		want := x.e != api.ErrOrder
		if d, e := Due(r, fine); want != (e == api.ErrArg) || want && d != 0 {
			t.Error(i, d, e)
		}
	}
	for i, x := range []api.Dating{{First: -1, Last: 3}, {First: 3, Last: 2}, {First: 0, Last: api.Forever}, {First: api.Forever, Last: api.Forever}, {First: math.MinInt, Last: math.MaxInt}, {First: math.MaxInt, Last: math.MinInt}, {First: -5, Last: -3}} {
		if d, e := Due(rich()[1], x); d != 0 || e != api.ErrArg {
			t.Error(i, d, e)
		}
	}
}

// P9.5: neither a later end nor more years make a due day earlier, and the end
// of the year neither.
func TestDueOrder(t *testing.T) {
	r := rand.New(rand.NewSource(93))
	due := func(x api.Rule, last int) int {
		d, e := Due(x, api.Dating{First: r.Intn(last + 1), Last: last})
		if e != api.OK || d < last {
			t.Fatal(x, last, d, e)
		}
		return d
	}
	for range 20000 {
		last := r.Intn(api.MaxDay)
		if r.Intn(3) == 0 {
			// The days around leap days and the end of the calendar.
			last = min(api.MaxDay-1, 146097*(1+r.Intn(7))+57+r.Intn(6))
		}
		x := of(1, "1", 0, 1)
		x.Years, x.YearEnd = r.Intn(api.MaxYears), r.Intn(2) == 0
		d := due(x, last)
		if later := due(x, last+1); later < d {
			t.Fatal(x, last, d, later)
		}
		longer := x
		longer.Years++
		if later := due(longer, last); later < d {
			t.Fatal(x, last, d, later)
		}
		whole := x
		whole.YearEnd = true
		if later := due(whole, last); later < d {
			t.Fatal(x, last, d, later)
		}
	}
}

// P9.4, P9.5: End changes one rule, and what applies only from its end on.
func TestEnd(t *testing.T) {
	r := rand.New(rand.NewSource(94))
	done := 0
	for range 3000 {
		l := random(r)
		if len(l) == 0 {
			continue
		}
		was := slices.Clone(l)
		i := r.Intn(len(l))
		end := l[i].In.From + r.Intn(14)
		got, e := End(l, l[i].ID, end)
		if end == l[i].In.From || end > l[i].In.Until {
			if len(got) != 0 || e != api.ErrRange {
				t.Fatal(l, i, end, got, e)
			}
			continue
		}
		want := slices.Clone(l)
		want[i].In.Until = end
		if e != api.OK || !slices.Equal(got, want) {
			t.Fatal(l, i, end, got, e)
		}
		if k, e := Check(got); k != -1 || e != api.OK {
			t.Fatal(got, k, e)
		}
		for _, code := range classes() {
			for d := -1; d < 26; d++ {
				ids := Apply(got, code, d)
				if d < end && !slices.Equal(ids, Apply(l, code, d)) || d >= end && slices.Contains(ids, l[i].ID) {
					t.Fatal(l, i, end, code, d, ids)
				}
			}
		}
		for k := range got {
			got[k] = api.Rule{}
		}
		if !slices.Equal(l, was) {
			t.Fatal("shared", l)
		}
		done++
	}
	if done < 1000 {
		t.Error(done)
	}
}

// P9.4: the days on which a rule can end, and the errors in their order.
func TestEndErrors(t *testing.T) {
	for i, x := range []struct {
		id, day int
		e       api.Errno
	}{
		{3, 11, api.OK}, {3, 30, api.OK}, {7, 21, api.OK}, {7, api.MaxDay, api.OK}, {7, api.Forever, api.OK}, {api.MaxID, 1, api.OK},
		{3, 10, api.ErrRange}, {3, 9, api.ErrRange}, {3, 31, api.ErrRange}, {3, -1, api.ErrRange}, {3, math.MinInt, api.ErrRange}, {3, math.MaxInt, api.ErrRange}, {7, api.Forever + 1, api.ErrRange}, {api.MaxID, 0, api.ErrRange}, {api.MaxID, 2, api.ErrRange},
		{4, 25, api.ErrNotFound}, {0, 25, api.ErrNotFound}, {-1, -1, api.ErrNotFound}, {4, api.Forever + 1, api.ErrNotFound},
	} {
		l := rich()
		got, e := End(l, x.id, x.day)
		if e != x.e || e != api.OK && len(got) != 0 || !slices.Equal(l, rich()) {
			t.Error(i, got, e)
		}
		if e == api.OK && got[Find(got, x.id)].In.Until != x.day {
			t.Error(i, got)
		}
	}
	if got, e := End(nil, 1, 5); len(got) != 0 || e != api.ErrNotFound {
		t.Error(got, e)
	}
}
