package hold

import (
	"math"
	"math/rand"
	"reflect"
	"regexp"
	"slices"
	"strings"
	"testing"

	"archivum/api"
	"archivum/code"
	"archivum/file"
	"archivum/office"
	"archivum/plan"
)

// form is the form of class codes.
var form = regexp.MustCompile(`\A[1-9][0-9]{0,2}(\.[1-9][0-9]{0,2}){0,5}\z`)

// offices returns offices of which 1 has the heir 3, and this one the heir 4.
func offices() []api.Office {
	return []api.Office{
		{ID: 1, Name: "Mills", In: api.Span{From: 0, Until: 20}, Next: []int{3, 2}},
		{ID: 2, Name: "Works", In: api.Span{From: 20, Until: api.Forever}},
		{ID: 3, Name: "Water", In: api.Span{From: 20, Until: 30}, Next: []int{4}},
		{ID: 4, Name: "Late", In: api.Span{From: 30, Until: 35}},
	}
}

// plans returns three versions: 1.1 becomes 1.2 and then 1, and 2 becomes 3.
func plans() []api.Plan {
	return []api.Plan{
		{Version: 1, In: api.Span{From: 2, Until: 10}, Classes: titled("1", "1.1", "2")},
		{Version: 2, In: api.Span{From: 10, Until: 20}, Classes: titled("1", "1.2", "2"), Moved: []api.Moved{{From: "1.1", To: "1.2"}}},
		{Version: 3, In: api.Span{From: 20, Until: 40}, Classes: titled("1", "3"), Moved: []api.Moved{{From: "2", To: "3"}}},
	}
}

func titled(codes ...string) []api.Class {
	var l []api.Class
	for _, c := range codes {
		l = append(l, api.Class{Code: c, Title: "Class"})
	}
	return l
}

// letters returns a file of the office 1 in the class 1.1.
func letters() api.File {
	return api.File{ID: 7, Office: 1, Opened: 5, Closed: 12, Class: "1.1", Title: "Letters"}
}

// of returns a hold.
func of(id, kind, what int, class string, from, until int) api.Hold {
	return api.Hold{ID: id, Kind: kind, Of: what, Class: class, Reason: "Inquiry", In: api.Span{From: from, Until: until}}
}

// rich returns holds without a fault, with all kinds.
func rich() []api.Hold {
	return []api.Hold{
		of(3, api.HoldFile, 7, "", 10, 30),
		of(5, api.HoldOffice, 3, "", 0, api.Forever),
		of(7, api.HoldClass, 0, "1.2", 15, 16),
		of(api.MaxID, api.HoldFile, 2, "", api.MaxDay, api.Forever),
	}
}

// days are days on which something changes in these lists, and others.
func days() []int {
	l := []int{math.MinInt, api.MaxDay, api.Forever, math.MaxInt}
	for d := -1; d <= 42; d++ {
		l = append(l, d)
	}
	return l
}

// random returns holds without a fault.
func random(r *rand.Rand) []api.Hold {
	var l []api.Hold
	id := 0
	for range r.Intn(8) {
		id += 1 + r.Intn(3)
		from := r.Intn(35)
		h := of(id, 1+r.Intn(3), 1+r.Intn(5), "", from, from+1+r.Intn(20))
		if h.Kind == api.HoldClass {
			h.Of, h.Class = 0, []string{"1", "1.1", "1.2", "2", "3"}[r.Intn(5)]
		}
		if r.Intn(4) == 0 {
			h.In.Until = api.Forever
		}
		l = append(l, h)
	}
	return l
}

// anything returns a hold that can have all faults.
func anything(r *rand.Rand) api.Hold {
	texts := []string{"", "x", "1", "1.1", "1.2", "2", "3", "01", "1."}
	return api.Hold{ID: r.Intn(4) - 1, Kind: r.Intn(6) - 1, Of: r.Intn(7) - 1, Class: texts[r.Intn(9)], In: api.Span{From: r.Intn(45) - 5, Until: r.Intn(45) - 5}}
}

// files returns files of which some have faults.
func files(r *rand.Rand) []api.File {
	l := make([]api.File, r.Intn(9))
	for i := range l {
		l[i] = api.File{ID: r.Intn(7) - 1, Office: r.Intn(6), Opened: r.Intn(45) - 2, Class: []string{"", "1", "1.1", "1.2", "2", "3", "x"}[r.Intn(7)]}
	}
	return l
}

// P10.1: which lists have no fault.
func TestCheckGood(t *testing.T) {
	var most []api.Hold
	for id := 1; id <= api.MaxHolds; id++ {
		most = append(most, of(id, api.HoldFile, 1, "", 0, 1))
	}
	lists := [][]api.Hold{nil, {}, rich(), most}
	for _, h := range []api.Hold{
		of(1, api.HoldFile, 1, "", 0, 1), of(api.MaxID, api.HoldFile, api.MaxID, "", 0, api.Forever), of(1, api.HoldOffice, 1, "", 5, 6), of(1, api.HoldOffice, api.MaxID, "", 5, 6),
		of(1, api.HoldClass, 0, "1", 5, 6), of(1, api.HoldClass, 0, "999.999.999.999.999.999", api.MaxDay, api.Forever),
	} {
		lists = append(lists, []api.Hold{h})
		h.Reason = strings.Repeat("x", api.MaxName)
		lists = append(lists, []api.Hold{h})
	}
	for i, l := range lists {
		was := slices.Clone(l)
		if k, e := Check(l); k != -1 || e != api.OK || !slices.Equal(l, was) {
			t.Error(i, k, e)
		}
	}
	r := rand.New(rand.NewSource(100))
	for range 500 {
		l := random(r)
		if k, e := Check(l); k != -1 || e != api.OK {
			t.Fatal(l, k, e)
		}
	}
}

// change is a change that makes a fault.
type change struct {
	e     api.Errno
	apply func(h *api.Hold)
}

// faults are changes of the second or the third of the rich holds, in the order
// of the table. Those of ErrSyntax are of the third one alone.
func faults(at int) []change {
	var l []change
	add := func(e api.Errno, all ...func(h *api.Hold)) {
		for _, apply := range all {
			l = append(l, change{e, apply})
		}
	}
	for _, n := range []int{0, -1, math.MinInt, api.MaxID + 1, math.MaxInt} {
		add(api.ErrRange, func(h *api.Hold) { h.ID = n })
	}
	for _, n := range []int{0, 4, -1, math.MinInt, math.MaxInt} {
		add(api.ErrRange, func(h *api.Hold) { h.Kind = n })
	}
	for _, in := range []api.Span{{From: 5, Until: 5}, {From: 6, Until: 5}, {From: -1, Until: 5}, {From: 5, Until: api.Forever + 1}, {From: api.Forever, Until: api.Forever}, {From: math.MaxInt, Until: math.MinInt}, {}} {
		add(api.ErrRange, func(h *api.Hold) { h.In = in })
	}
	add(api.ErrOrder, func(h *api.Hold) { h.ID = 3 }, func(h *api.Hold) { h.ID = 1 })
	if at == 1 {
		for _, n := range []int{0, -1, math.MinInt, api.MaxID + 1, math.MaxInt} {
			add(api.ErrArg, func(h *api.Hold) { h.Of = n }, func(h *api.Hold) { h.Of, h.Kind = n, api.HoldFile })
		}
		for _, s := range []string{"1", "x", " "} {
			add(api.ErrArg, func(h *api.Hold) { h.Class = s }, func(h *api.Hold) { h.Class, h.Kind = s, api.HoldFile })
		}
		add(api.ErrArg, func(h *api.Hold) { h.Kind = api.HoldClass }, func(h *api.Hold) { h.Kind, h.Class = api.HoldClass, "1" })
	} else {
		for _, n := range []int{1, -1, math.MinInt, api.MaxID + 1, math.MaxInt} {
			add(api.ErrArg, func(h *api.Hold) { h.Of = n }, func(h *api.Hold) { h.Of, h.Class = n, "" })
		}
		for _, s := range []string{"", "x", "01", "1.", ".1", "1..2", "1000", "0", "1.1.1.1.1.1.1"} {
			add(api.ErrSyntax, func(h *api.Hold) { h.Class = s })
		}
	}
	for _, s := range []string{"", " x", "x ", "x  y", "x\n", "\x7f", strings.Repeat("x", api.MaxName+1)} {
		add(api.ErrName, func(h *api.Hold) { h.Reason = s })
	}
	return l
}

// refused checks that Release does not take a list with a fault.
func refused(t *testing.T, l []api.Hold) {
	t.Helper()
	for _, id := range []int{3, 5, 0, 99} {
		for _, d := range []int{12, -1, 0, api.Forever + 1} {
			if got, e := Release(l, id, d); len(got) != 0 || e != api.ErrArg {
				t.Error(id, d, got, e)
			}
		}
	}
}

// P10.1, P10.3: each fault is found at its hold, and of several holds with a
// fault the first one counts.
func TestCheckFaults(t *testing.T) {
	for at := 1; at <= 2; at++ {
		for i, x := range faults(at) {
			l := rich()
			x.apply(&l[at])
			was := slices.Clone(l)
			if k, e := Check(l); k != at || e != x.e || !slices.Equal(l, was) {
				t.Error(at, i, k, e)
			}
			refused(t, l)
			l[3].Kind = 0
			if k, e := Check(l); k != at || e != x.e {
				t.Error(at, i, k, e)
			}
			l[0].Reason = ""
			if k, e := Check(l); k != 0 || e != api.ErrName {
				t.Error(at, i, k, e)
			}
		}
	}
	for i, x := range []struct {
		l []api.Hold
		k int
		e api.Errno
	}{
		{make([]api.Hold, api.MaxHolds+1), -1, api.ErrTooLarge}, {make([]api.Hold, 5000), -1, api.ErrTooLarge}, {make([]api.Hold, api.MaxHolds), 0, api.ErrRange},
	} {
		if k, e := Check(x.l); k != x.k || e != x.e {
			t.Error(i, k, e)
		}
		refused(t, x.l)
	}
}

// P10.1: of several faults of one hold the first one of the table counts.
func TestCheckOrder(t *testing.T) {
	steps := []change{
		{api.ErrRange, func(h *api.Hold) { h.In.Until = h.In.From }},
		{api.ErrOrder, func(h *api.Hold) { h.ID = 3 }},
		{api.ErrArg, func(h *api.Hold) { h.Of = 2 }},
		{api.ErrSyntax, func(h *api.Hold) { h.Class = "x" }},
		{api.ErrName, func(h *api.Hold) { h.Reason = "" }},
	}
	for set := 1; set < 1<<len(steps); set++ {
		l := rich()
		want := api.OK
		for i, step := range steps {
			if set>>i&1 == 0 {
				continue
			}
			step.apply(&l[2])
			if want == api.OK {
				want = step.e
			}
		}
		if k, e := Check(l); k != 2 || e != want {
			t.Errorf("%b %d %v %v", set, k, e, want)
		}
	}
}

// P10.2: the chapter's example.
func TestExample(t *testing.T) {
	l := []api.Office{{ID: 1, Name: "Old", In: api.Span{From: 0, Until: 100}, Next: []int{2}}, {ID: 2, Name: "New", In: api.Span{From: 100, Until: api.Forever}}}
	first, second := of(1, api.HoldOffice, 1, "", 50, 150), of(2, api.HoldOffice, 2, "", 50, 150)
	for _, x := range []struct {
		day           int
		first, second bool
	}{
		{49, false, false}, {50, true, false}, {99, true, false}, {100, true, true}, {149, true, true}, {150, false, false},
	} {
		a, b := Covers(l, nil, first, letters(), x.day), Covers(l, nil, second, letters(), x.day)
		if a != x.first || b != x.second {
			t.Error(x.day, a, b)
		}
		var want []int
		if x.first {
			want = append(want, 1)
		}
		if x.second {
			want = append(want, 2)
		}
		if got := Holding(l, nil, []api.Hold{first, second}, letters(), x.day); !slices.Equal(got, want) {
			t.Error(x.day, got)
		}
	}
}

// P10.2: from which day to which one each kind covers a file.
func TestCovers(t *testing.T) {
	for i, x := range []struct {
		kind, of    int
		class       string
		from, until int
	}{
		{api.HoldFile, 7, "", 0, 99}, {api.HoldFile, 1, "", 0, 0}, {api.HoldFile, 0, "", 0, 0},
		// The chain of the office 1 is 1, then 1, 3, then 1, 3, 4.
		{api.HoldOffice, 1, "", 0, 99}, {api.HoldOffice, 2, "", 0, 0}, {api.HoldOffice, 3, "", 20, 99}, {api.HoldOffice, 4, "", 30, 99}, {api.HoldOffice, 7, "", 0, 0}, {api.HoldOffice, 0, "", 0, 0},
		{api.HoldClass, 0, "1", 2, 40}, {api.HoldClass, 0, "1.1", 2, 10}, {api.HoldClass, 0, "1.2", 10, 20}, {api.HoldClass, 0, "1.1.1", 0, 0}, {api.HoldClass, 0, "2", 0, 0}, {api.HoldClass, 0, "", 0, 0}, {api.HoldClass, 0, "x", 0, 0},
		// Only what its kind names matters.
		{api.HoldFile, 7, "x", 0, 99}, {api.HoldOffice, 1, "2", 0, 99}, {api.HoldClass, 99, "1", 2, 40},
		{0, 7, "1", 0, 0}, {4, 7, "1", 0, 0}, {-1, 1, "1", 0, 0}, {math.MinInt, 1, "1", 0, 0}, {math.MaxInt, 1, "1", 0, 0},
	} {
		for _, d := range days() {
			h := of(1, x.kind, x.of, x.class, 0, 99)
			want := x.from <= d && d < x.until
			if got := Covers(offices(), plans(), h, letters(), d); got != want {
				t.Error(i, d, got)
			}
			h.In = api.Span{From: 6, Until: 33}
			if got := Covers(offices(), plans(), h, letters(), d); got != (want && 6 <= d && d < 33) {
				t.Error(i, d, got)
			}
			h.In = api.Span{From: 33, Until: 6}
			if Covers(offices(), plans(), h, letters(), d) {
				t.Error(i, d)
			}
		}
	}
	if !Covers(nil, nil, of(0, api.HoldFile, 0, "", 0, 1), api.File{}, 0) {
		t.Error("no file")
	}
	// Spans that are not valid have days, too; ahead of all offices the chain
	// goes up to the last one.
	for of, want := range map[int]bool{1: true, 2: false, 3: true, 4: true} {
		h := api.Hold{Kind: api.HoldOffice, Of: of, In: api.Span{From: -9, Until: math.MaxInt}}
		if Covers(offices(), plans(), h, letters(), -1) != want || Covers(offices(), plans(), h, letters(), api.Forever) != want {
			t.Error(of)
		}
	}
}

// P10.2: without chains no office holds a file, and without classes no class.
func TestCoversFaults(t *testing.T) {
	wrongOffices, wrongPlans := offices(), plans()
	wrongOffices[3].Name = ""
	wrongPlans[2].Classes[1].Title = ""
	for i, x := range []struct {
		offices     []api.Office
		plans       []api.Plan
		change      func(f *api.File)
		first, last bool
	}{
		{offices(), plans(), func(*api.File) {}, true, true},
		{wrongOffices, plans(), func(*api.File) {}, false, true},
		{offices(), wrongPlans, func(*api.File) {}, true, false},
		{nil, nil, func(*api.File) {}, false, false},
		{offices(), plans(), func(f *api.File) { f.Office = 9 }, false, true},
		{offices(), plans(), func(f *api.File) { f.Class = "1.3" }, true, false},
		{offices(), plans(), func(f *api.File) { f.Class = "" }, true, false},
		{offices(), plans(), func(f *api.File) { f.Opened = 1 }, true, false},
		{offices(), plans(), func(f *api.File) { f.Opened = 10 }, true, false},
		{offices(), plans(), func(f *api.File) { f.Closed, f.Title, f.Points, f.Notes = -5, "", -1, make([]api.Note, 99) }, true, true},
	} {
		f := letters()
		x.change(&f)
		l := []api.Hold{of(1, api.HoldFile, 7, "", 0, 40), of(2, api.HoldOffice, 1, "", 0, 40), of(3, api.HoldClass, 0, "1", 0, 40)}
		want := []int{1}
		if x.first {
			want = append(want, 2)
		}
		if x.last {
			want = append(want, 3)
		}
		if got := Holding(x.offices, x.plans, l, f, 9); !slices.Equal(got, want) {
			t.Error(i, got)
		}
		for _, h := range l {
			if got := Covers(x.offices, x.plans, h, f, 9); got != slices.Contains(want, h.ID) {
				t.Error(i, h.ID, got)
			}
			if got := Covered(x.offices, x.plans, h, []api.File{f}, 9); slices.Contains(got, 7) != slices.Contains(want, h.ID) {
				t.Error(i, h.ID, got)
			}
		}
	}
}

// model says whether a hold covers a file by its definition.
func model(h api.Hold, f api.File, day int) bool {
	if day < h.In.From || day >= h.In.Until {
		return false
	}
	switch h.Kind {
	case api.HoldFile:
		return h.Of == f.ID
	case api.HoldOffice:
		return slices.Contains(office.Chain(offices(), f.Office, day), h.Of)
	case api.HoldClass:
		class, e := file.Class(plans(), f, day)
		return e == api.OK && form.MatchString(h.Class) && strings.HasPrefix(class+".", h.Class+".")
	}
	return false
}

// P10.2: any holds and files, and both lists in their order.
func TestAny(t *testing.T) {
	r := rand.New(rand.NewSource(101))
	places, versions := offices(), plans()
	covered := map[int]int{}
	for range 1500 {
		l := files(r)
		holds := make([]api.Hold, r.Intn(12))
		for i := range holds {
			holds[i] = anything(r)
		}
		wasFiles, wasHolds := slices.Clone(l), slices.Clone(holds)
		for range 8 {
			day := days()[r.Intn(len(days()))]
			for _, h := range holds {
				var want []int
				for _, f := range l {
					yes := model(h, f, day)
					if got := Covers(places, versions, h, f, day); got != yes {
						t.Fatal(h, f, day, got)
					}
					if yes {
						want = append(want, f.ID)
						covered[h.Kind]++
					}
				}
				if got := Covered(places, versions, h, l, day); !slices.Equal(got, want) {
					t.Fatal(h, l, day, got)
				}
			}
			for _, f := range l {
				var want []int
				for _, h := range holds {
					if model(h, f, day) {
						want = append(want, h.ID)
					}
				}
				if got := Holding(places, versions, holds, f, day); !slices.Equal(got, want) {
					t.Fatal(holds, f, day, got)
				}
			}
		}
		if !reflect.DeepEqual(l, wasFiles) || !slices.Equal(holds, wasHolds) {
			t.Fatal("changed", l, holds)
		}
	}
	if !reflect.DeepEqual(places, offices()) || !reflect.DeepEqual(versions, plans()) {
		t.Error("changed")
	}
	for kind := api.HoldFile; kind <= api.HoldClass; kind++ {
		if covered[kind] < 100 {
			t.Error(kind, covered[kind])
		}
	}
}

// P10.2: files with one class or one day of opening are told apart, and lists can
// be longer than those without a fault.
func TestCoveredMany(t *testing.T) {
	var l []api.File
	var want []int
	for id := range 3000 {
		f := api.File{ID: id, Opened: 5 + 5*(id%4), Class: []string{"1.1", "1", "1.2"}[id%3]}
		l = append(l, f)
		// On day 15 the class is 1.2 if it was 1.1 on day 5, or 1.2 from day 10 on.
		if f.Opened == 5 && f.Class == "1.1" || (f.Opened == 10 || f.Opened == 15) && f.Class == "1.2" {
			want = append(want, id)
		}
	}
	if got := Covered(nil, plans(), of(1, api.HoldClass, 0, "1.2", 0, 20), l, 15); len(want) == 0 || !slices.Equal(got, want) {
		t.Error(len(got), len(want))
	}
	if got := Holding(nil, nil, slices.Repeat([]api.Hold{of(4, api.HoldFile, 7, "", 0, 9)}, 3000), letters(), 8); !slices.Equal(got, slices.Repeat([]int{4}, 3000)) {
		t.Error(len(got))
	}
	if Covered(nil, nil, of(1, api.HoldFile, 7, "", 0, 9), nil, 8) != nil || Holding(nil, nil, nil, letters(), 8) != nil {
		t.Error("nothing")
	}
}

// P10.4: a hold of a class covers whatever one of a class below it covers.
func TestAbove(t *testing.T) {
	r := rand.New(rand.NewSource(102))
	var l []api.File
	for range 40 {
		l = append(l, files(r)...)
	}
	for i := range l {
		l[i].ID = i
	}
	codes := []string{"1", "1.1", "1.2", "1.1.1", "2", "3"}
	strict := false
	for _, below := range codes {
		for _, above := range codes {
			if !code.Within(below, above) {
				continue
			}
			for _, day := range days() {
				less := Covered(nil, plans(), of(1, api.HoldClass, 0, below, 0, 30), l, day)
				more := Covered(nil, plans(), of(1, api.HoldClass, 0, above, 0, 30), l, day)
				for _, id := range less {
					if !slices.Contains(more, id) {
						t.Fatal(l[id], below, above, day)
					}
				}
				strict = strict || len(more) > len(less)
			}
		}
	}
	if !strict {
		t.Error("no difference")
	}
}

// P10.4: a file can be held by its own office, and by the one that has its duties.
func TestDuties(t *testing.T) {
	heirs := map[int]bool{}
	for _, o := range offices() {
		f := letters()
		f.Office = o.ID
		for _, day := range days() {
			in := api.Span{From: math.MinInt, Until: math.MaxInt}
			if day == math.MaxInt {
				continue
			}
			own := api.Hold{Kind: api.HoldOffice, Of: o.ID, In: in}
			if !Covers(offices(), plans(), own, f, day) {
				t.Error(o.ID, day)
			}
			heir, ok := office.Heir(offices(), o.ID, day)
			if ok && !Covers(offices(), plans(), api.Hold{Kind: api.HoldOffice, Of: heir, In: in}, f, day) {
				t.Error(o.ID, day, heir)
			}
			heirs[heir] = ok
		}
	}
	if !heirs[1] || !heirs[3] || !heirs[4] {
		t.Error(heirs)
	}
}

// P10.3, P10.4: Release changes one hold, and nothing on the days before.
func TestRelease(t *testing.T) {
	r := rand.New(rand.NewSource(103))
	done := 0
	for range 1000 {
		l := random(r)
		if len(l) == 0 {
			continue
		}
		was := slices.Clone(l)
		i := r.Intn(len(l))
		end := l[i].In.From + r.Intn(14)
		got, e := Release(l, l[i].ID, end)
		if end == l[i].In.From || end > l[i].In.Until {
			if len(got) != 0 || e != api.ErrRange {
				t.Fatal(l, i, end, got, e)
			}
			continue
		}
		want := slices.Clone(l)
		want[i].In.Until = end
		if e != api.OK || !slices.Equal(got, want) {
			t.Fatal(l, i, end, got, e)
		}
		if k, e := Check(got); k != -1 || e != api.OK {
			t.Fatal(got, k, e)
		}
		for _, f := range files(r) {
			for day := -1; day < 45; day++ {
				held, before := Holding(offices(), plans(), got, f, day), Holding(offices(), plans(), l, f, day)
				if day < end && !slices.Equal(held, before) || day >= end && slices.Contains(held, l[i].ID) {
					t.Fatal(l, i, end, f, day, held, before)
				}
			}
		}
		for k := range got {
			got[k] = api.Hold{}
		}
		if !slices.Equal(l, was) {
			t.Fatal("shared", l)
		}
		done++
	}
	if done < 300 {
		t.Error(done)
	}
}

// P10.3: the days on which a hold can be released, and the errors in their order.
func TestReleaseErrors(t *testing.T) {
	for i, x := range []struct {
		id, day int
		e       api.Errno
	}{
		{3, 11, api.OK}, {3, 30, api.OK}, {5, 1, api.OK}, {5, api.MaxDay, api.OK}, {5, api.Forever, api.OK}, {7, 16, api.OK}, {api.MaxID, api.Forever, api.OK},
		{3, 10, api.ErrRange}, {3, 9, api.ErrRange}, {3, 31, api.ErrRange}, {3, -1, api.ErrRange}, {3, math.MinInt, api.ErrRange}, {3, math.MaxInt, api.ErrRange}, {5, api.Forever + 1, api.ErrRange}, {5, 0, api.ErrRange}, {7, 15, api.ErrRange}, {7, 17, api.ErrRange}, {api.MaxID, api.MaxDay, api.ErrRange},
		{4, 25, api.ErrNotFound}, {0, 25, api.ErrNotFound}, {-1, -1, api.ErrNotFound}, {4, api.Forever + 1, api.ErrNotFound},
	} {
		l := rich()
		got, e := Release(l, x.id, x.day)
		if e != x.e || e != api.OK && len(got) != 0 || !slices.Equal(l, rich()) {
			t.Error(i, got, e)
		}
		if e == api.OK {
			k := slices.IndexFunc(got, func(h api.Hold) bool { return h.ID == x.id })
			if len(got) != 4 || got[k].In.Until != x.day {
				t.Error(i, got)
			}
		}
	}
	if got, e := Release(nil, 1, 5); len(got) != 0 || e != api.ErrNotFound {
		t.Error(got, e)
	}
}

// The lists of these tests have no fault.
func TestFixtures(t *testing.T) {
	if at, e := office.Check(offices()); at != -1 || e != api.OK {
		t.Error(at, e)
	}
	if at, e := plan.Check(plans()); at != -1 || e != api.OK {
		t.Error(at, e)
	}
	if at, e := file.Check(offices(), plans(), []api.File{letters()}); at != -1 || e != api.OK {
		t.Error(at, e)
	}
}
