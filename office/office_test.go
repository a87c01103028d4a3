package office

import (
	"math"
	"math/rand"
	"slices"
	"strings"
	"testing"

	"archivum/api"
)

// of returns an office with a name.
func of(id, from, until int, next ...int) api.Office {
	return api.Office{ID: id, Name: "Office", In: api.Span{From: from, Until: until}, Next: next}
}

// example returns the offices of the chapter's example.
func example() []api.Office {
	return []api.Office{of(1, 0, 100, 2, 3), of(2, 100, 200, 4), of(3, 100, api.Forever), of(4, 200, api.Forever)}
}

// copied returns a list that shares no memory with another one.
func copied(l []api.Office) []api.Office {
	out := slices.Clone(l)
	for i := range out {
		out[i].Next = slices.Clone(out[i].Next)
	}
	return out
}

// same says whether two lists are equal, with nil for an empty list.
func same(a, b []api.Office) bool {
	return slices.EqualFunc(a, b, func(x, y api.Office) bool {
		return x.ID == y.ID && x.Name == y.Name && x.In == y.In && slices.Equal(x.Next, y.Next)
	})
}

// horizon is the first day on which nothing changes any more in random lists.
const horizon = 7

// random returns a list without a fault, in which successors are frequent.
func random(r *rand.Rand) []api.Office {
	var l []api.Office
	id := 0
	for range 1 + r.Intn(9) {
		id += 1 + r.Intn(3)
		from := r.Intn(horizon)
		until := from + 1 + r.Intn(horizon-from)
		if r.Intn(5) == 0 {
			until = api.Forever
		}
		l = append(l, of(id, from, until))
	}
	for i := range l {
		for _, k := range r.Perm(len(l)) {
			if l[k].In.From == l[i].In.Until && r.Intn(4) > 0 {
				l[i].Next = append(l[i].Next, l[k].ID)
			}
		}
	}
	return l
}

// days are all days on which something can change in random lists, and others.
func days() []int {
	l := []int{math.MinInt, api.MaxDay, api.Forever, math.MaxInt}
	for d := -1; d <= horizon+1; d++ {
		l = append(l, d)
	}
	return l
}

func byID(l []api.Office, id int) api.Office {
	for _, o := range l {
		if o.ID == id {
			return o
		}
	}
	return api.Office{}
}

func inForce(o api.Office, day int) bool { return o.In.From <= day && day < o.In.Until }

// chainModel is the chain of an office by its definition.
func chainModel(l []api.Office, id, day int) []int {
	o := byID(l, id)
	if inForce(o, day) || len(o.Next) == 0 {
		return []int{id}
	}
	return append([]int{id}, chainModel(l, o.Next[0], day)...)
}

// reachModel adds successors to an office until nothing is new.
func reachModel(l []api.Office, id int) []int {
	found := []int{id}
	for i := 0; i < len(found); i++ {
		for _, next := range byID(l, found[i]).Next {
			if !slices.Contains(found, next) {
				found = append(found, next)
			}
		}
	}
	slices.Sort(found)
	return found
}

// P6.1: which lists have no fault.
func TestCheckGood(t *testing.T) {
	longest := of(1, 0, 5)
	longest.Name = strings.Repeat("x", api.MaxName)
	many := []api.Office{of(1, 0, 5, 9, 8, 7, 6, 5, 4, 3, 2)}
	for id := 2; id <= 9; id++ {
		many = append(many, of(id, 5, 6))
	}
	var most []api.Office
	for id := 1; id <= api.MaxOffices; id++ {
		most = append(most, of(id, id, id+1))
	}
	for i, l := range [][]api.Office{
		nil, {}, example(), {of(1, 0, 1)}, {of(api.MaxID, 0, api.Forever)}, {of(5, api.MaxDay, api.Forever)}, {longest}, many, most,
		// A successor can stand ahead of the office, and be that of several ones.
		{of(1, 5, 9), of(2, 0, 5, 1), of(3, 4, 5, 1)},
	} {
		was := copied(l)
		if at, e := Check(l); at != -1 || e != api.OK || !same(l, was) {
			t.Error(i, at, e)
		}
	}
	r := rand.New(rand.NewSource(60))
	for range 5000 {
		l := random(r)
		if at, e := Check(l); at != -1 || e != api.OK {
			t.Fatal(l, at, e)
		}
	}
}

// faults are changes of the office 2 of the example, each with its error, in
// the order of the table.
func faults() []struct {
	e      api.Errno
	change func(o *api.Office)
} {
	return []struct {
		e      api.Errno
		change func(o *api.Office)
	}{
		{api.ErrRange, func(o *api.Office) { o.ID = 0 }},
		{api.ErrRange, func(o *api.Office) { o.ID = -1 }},
		{api.ErrRange, func(o *api.Office) { o.ID = math.MinInt }},
		{api.ErrRange, func(o *api.Office) { o.ID = api.MaxID + 1 }},
		{api.ErrRange, func(o *api.Office) { o.ID = math.MaxInt }},
		{api.ErrRange, func(o *api.Office) { o.In = api.Span{} }},
		{api.ErrRange, func(o *api.Office) { o.In.Until = o.In.From }},
		{api.ErrRange, func(o *api.Office) { o.In.Until = o.In.From - 1 }},
		{api.ErrRange, func(o *api.Office) { o.In.From = -1 }},
		{api.ErrRange, func(o *api.Office) { o.In.Until = api.Forever + 1 }},
		{api.ErrRange, func(o *api.Office) { o.In = api.Span{From: math.MinInt, Until: math.MaxInt} }},
		{api.ErrRange, func(o *api.Office) { o.In = api.Span{From: math.MaxInt, Until: math.MinInt} }},
		{api.ErrRange, func(o *api.Office) { o.Next = make([]int, 9) }},
		{api.ErrRange, func(o *api.Office) { o.Next = []int{11, 12, 13, 14, 15, 16, 17, 18, 19} }},
		{api.ErrName, func(o *api.Office) { o.Name = "" }},
		{api.ErrName, func(o *api.Office) { o.Name = " x" }},
		{api.ErrName, func(o *api.Office) { o.Name = "x " }},
		{api.ErrName, func(o *api.Office) { o.Name = "x  y" }},
		{api.ErrName, func(o *api.Office) { o.Name = "x\ny" }},
		{api.ErrName, func(o *api.Office) { o.Name = strings.Repeat("x", api.MaxName+1) }},
		{api.ErrOrder, func(o *api.Office) { o.ID = 1 }},
		{api.ErrTwice, func(o *api.Office) { o.Next = []int{4, 4} }},
		{api.ErrTwice, func(o *api.Office) { o.Next = []int{4, 9, 3, 4} }},
		{api.ErrTwice, func(o *api.Office) { o.Next = []int{1, 2, 9, 8, 9} }},
		{api.ErrTwice, func(o *api.Office) { o.Next = []int{0, 0} }},
		{api.ErrNotFound, func(o *api.Office) { o.Next = []int{9} }},
		{api.ErrNotFound, func(o *api.Office) { o.Next = []int{4, 0} }},
		{api.ErrNotFound, func(o *api.Office) { o.Next = []int{3, -4} }},
		{api.ErrNotFound, func(o *api.Office) { o.Next = []int{2, 1, 5} }},
		{api.ErrMismatch, func(o *api.Office) { o.Next = []int{3} }},
		{api.ErrMismatch, func(o *api.Office) { o.Next = []int{4, 1} }},
		{api.ErrMismatch, func(o *api.Office) { o.Next = []int{2} }},
		{api.ErrMismatch, func(o *api.Office) { o.In.Until = api.Forever }},
		{api.ErrMismatch, func(o *api.Office) { o.In.Until = 199 }},
		{api.ErrMismatch, func(o *api.Office) { o.In.Until = 201 }},
	}
}

// P6.1: each fault is found at its office.
func TestCheckFaults(t *testing.T) {
	for i, x := range faults() {
		l := example()
		// The office 1 must not lose its heir, or it would be the first one with a fault.
		l[0].Next = nil
		x.change(&l[1])
		was := copied(l)
		if at, e := Check(l); at != 1 || e != x.e || !same(l, was) {
			t.Error(i, at, e)
		}
		if m, e := End(l, 3, 150, nil); len(m) != 0 || e != api.ErrArg {
			t.Error(i, m, e)
		}
		silent(t, l)
	}
}

// silent checks that nothing is said about a list with a fault.
func silent(t *testing.T, l []api.Office) {
	t.Helper()
	for _, id := range []int{1, 2, 3, 4, 0, -1} {
		h, ok := Heir(l, id, 150)
		if h != 0 || ok || len(Chain(l, id, 150)) != 0 || len(Reach(l, id)) != 0 || len(Duties(l, id, 150)) != 0 {
			t.Error(l, id)
		}
	}
}

// P6.1: of several faults of one office the first one of the table counts, and
// of several offices the first one that has a fault.
func TestCheckOrder(t *testing.T) {
	// Each of these leaves alone what the others change.
	steps := []struct {
		e      api.Errno
		change func(o *api.Office)
	}{
		{api.ErrRange, func(o *api.Office) { o.In.From = -1 }},
		{api.ErrName, func(o *api.Office) { o.Name = "" }},
		{api.ErrOrder, func(o *api.Office) { o.ID = 1 }},
		{api.ErrTwice, func(o *api.Office) { o.Next = append(o.Next, 4, 4) }},
		{api.ErrNotFound, func(o *api.Office) { o.Next = append(o.Next, 9) }},
		{api.ErrMismatch, func(o *api.Office) { o.Next = append([]int{3}, o.Next...) }},
	}
	for set := 1; set < 1<<len(steps); set++ {
		l := example()
		l[0].Next, l[1].Next = nil, nil
		want := api.OK
		for i, step := range steps {
			if set>>i&1 == 0 {
				continue
			}
			step.change(&l[1])
			if want == api.OK {
				want = step.e
			}
		}
		if at, e := Check(l); at != 1 || e != want {
			t.Errorf("%b %d %v", set, at, e)
		}
	}
	for i, x := range faults() {
		l := example()
		l[0].Next = nil
		x.change(&l[1])
		l[0].Next = []int{7}
		if at, e := Check(l); at != 0 || e != api.ErrNotFound {
			t.Error(i, at, e)
		}
		l[0].Next = nil
		l[3].Name = ""
		if at, e := Check(l); at != 1 || e != x.e {
			t.Error(i, at, e)
		}
	}
}

// P6.1: of offices with the same ID the first one counts, and too many offices
// have no index.
func TestCheckEdges(t *testing.T) {
	many := make([]api.Office, api.MaxOffices+1)
	for i := range many {
		many[i] = of(i+1, 0, 1)
	}
	wrong := slices.Clone(many)
	wrong[0].Name = ""
	for i, x := range []struct {
		l  []api.Office
		at int
		e  api.Errno
	}{
		{many, -1, api.ErrTooLarge}, {wrong, -1, api.ErrTooLarge}, {make([]api.Office, 5000), -1, api.ErrTooLarge}, {wrong[:32], 0, api.ErrName},
		{[]api.Office{of(1, 0, 5, 2), of(2, 5, 6), of(2, 7, 8)}, 2, api.ErrOrder},
		{[]api.Office{of(1, 0, 5, 2), of(2, 7, 8), of(2, 5, 6)}, 0, api.ErrMismatch},
		{[]api.Office{of(2, 0, 5), of(1, 5, 6)}, 1, api.ErrOrder}, {[]api.Office{of(2, 0, 5), of(2, 0, 5)}, 1, api.ErrOrder},
		// What is wrong with a successor is found at the successor.
		{[]api.Office{of(1, 0, 5, 2), of(2, 5, 5)}, 1, api.ErrRange}, {[]api.Office{of(1, 0, 5, 0), of(0, 5, 6)}, 1, api.ErrRange},
		{[]api.Office{of(1, 0, api.Forever, 2), of(2, api.Forever, api.Forever+1)}, 1, api.ErrRange},
		// Nobody is followed by an office that began earlier, or at the same time.
		{[]api.Office{of(1, 0, 5, 2), of(2, 5, 6, 1)}, 1, api.ErrMismatch}, {[]api.Office{of(1, 0, 5, 1)}, 0, api.ErrMismatch},
	} {
		if at, e := Check(x.l); at != x.at || e != x.e {
			t.Error(i, at, e)
		}
		silent(t, x.l)
	}
}

// P6.1: Find takes any list.
func TestFind(t *testing.T) {
	l := []api.Office{of(5, 9, 3), of(0, 0, 0), of(3, 0, 1), of(3, 0, 2), of(-7, 1, 2), of(math.MinInt, 1, 2)}
	for i, x := range []struct{ id, at int }{{5, 0}, {0, 1}, {3, 2}, {-7, 4}, {math.MinInt, 5}, {1, -1}, {math.MaxInt, -1}} {
		if at := Find(l, x.id); at != x.at {
			t.Error(i, at)
		}
	}
	many := make([]api.Office, 5000)
	many[4999].ID = 8
	if Find(many, 8) != 4999 || Find(many, 0) != 0 || Find(nil, 0) != -1 {
		t.Error("many")
	}
}

// P6.2, P6.3: the chapter's example.
func TestExample(t *testing.T) {
	l := example()
	for i, x := range []struct {
		id, day, heir int
		ok            bool
		chain         []int
	}{
		{1, 0, 1, true, []int{1}}, {1, 99, 1, true, []int{1}}, {1, 100, 2, true, []int{1, 2}}, {1, 150, 2, true, []int{1, 2}}, {1, 200, 4, true, []int{1, 2, 4}}, {1, 250, 4, true, []int{1, 2, 4}},
		{1, api.MaxDay, 4, true, []int{1, 2, 4}}, {1, api.Forever, 0, false, []int{1, 2, 4}}, {1, -1, 0, false, []int{1, 2, 4}}, {1, math.MinInt, 0, false, []int{1, 2, 4}}, {1, math.MaxInt, 0, false, []int{1, 2, 4}},
		{2, 99, 0, false, []int{2, 4}}, {3, 99, 0, false, []int{3}}, {3, 100, 3, true, []int{3}}, {4, 199, 0, false, []int{4}},
		{5, 150, 0, false, nil}, {0, 150, 0, false, nil}, {-1, 150, 0, false, nil},
	} {
		h, ok := Heir(l, x.id, x.day)
		if c := Chain(l, x.id, x.day); h != x.heir || ok != x.ok || !slices.Equal(c, x.chain) {
			t.Error(i, h, ok, c)
		}
	}
	for i, x := range []struct {
		id, day int
		want    []int
	}{
		{4, 250, []int{1, 2, 4}}, {4, 199, nil}, {2, 150, []int{1, 2}}, {2, 200, nil}, {2, 99, nil}, {1, 50, []int{1}}, {1, 100, nil}, {3, 150, []int{3}}, {3, 99, nil},
		{4, api.MaxDay, []int{1, 2, 4}}, {4, api.Forever, nil}, {1, -1, nil}, {5, 150, nil}, {0, 150, nil},
	} {
		if d := Duties(l, x.id, x.day); !slices.Equal(d, x.want) {
			t.Error(i, d)
		}
	}
	for i, x := range []struct {
		id   int
		want []int
	}{{1, []int{1, 2, 3, 4}}, {2, []int{2, 4}}, {3, []int{3}}, {4, []int{4}}, {5, nil}, {0, nil}} {
		if d := Reach(l, x.id); !slices.Equal(d, x.want) {
			t.Error(i, d)
		}
	}
	if !same(l, example()) {
		t.Error("changed")
	}
}

// P6.2, P6.3: chains, heirs, duties and reach by their definitions.
func TestModels(t *testing.T) {
	r := rand.New(rand.NewSource(61))
	for range 2000 {
		l := random(r)
		was := copied(l)
		for _, o := range l {
			if got := Reach(l, o.ID); !slices.Equal(got, reachModel(l, o.ID)) {
				t.Fatal("Reach", l, o.ID, got)
			}
			for _, day := range days() {
				want := chainModel(l, o.ID, day)
				if got := Chain(l, o.ID, day); !slices.Equal(got, want) {
					t.Fatal("Chain", l, o.ID, day, got)
				}
				last := want[len(want)-1]
				ok := inForce(byID(l, last), day)
				if !ok {
					last = 0
				}
				if h, is := Heir(l, o.ID, day); h != last || is != ok {
					t.Fatal("Heir", l, o.ID, day, h, is)
				}
			}
		}
		if !same(l, was) {
			t.Fatal("changed", l)
		}
	}
}

// P6.3, P6.4: no office's duties are with two offices; who is in force has its
// own ones, and nobody else has any; chains have no gap and no office twice.
func TestDuties(t *testing.T) {
	r := rand.New(rand.NewSource(62))
	for range 2000 {
		l := random(r)
		for _, day := range days() {
			with := map[int]int{}
			for _, o := range l {
				d := Duties(l, o.ID, day)
				if !slices.IsSorted(d) || slices.Contains(d, o.ID) != inForce(o, day) || !inForce(o, day) && len(d) != 0 {
					t.Fatal(l, o.ID, day, d)
				}
				for _, id := range d {
					if with[id] != 0 {
						t.Fatal(l, o.ID, day, id)
					}
					with[id] = o.ID
				}
			}
			for _, o := range l {
				if h, _ := Heir(l, o.ID, day); with[o.ID] != h {
					t.Fatal(l, o.ID, day, h, with)
				}
				c := Chain(l, o.ID, day)
				for i := 1; i < len(c); i++ {
					if byID(l, c[i]).In.From != byID(l, c[i-1]).In.Until || slices.Contains(c[:i], c[i]) {
						t.Fatal(l, c)
					}
				}
			}
		}
	}
}

// P6.3: many ways to the same offices are not gone one by one.
func TestReachWide(t *testing.T) {
	var l []api.Office
	for i := range 16 {
		next := []int{2*i + 3, 2*i + 4}
		if i == 15 {
			next = nil
		}
		l = append(l, of(2*i+1, i, i+1, next...), of(2*i+2, i, i+1, next...))
	}
	all := []int{1}
	for id := 3; id <= 32; id++ {
		all = append(all, id)
	}
	if got := Reach(l, 1); !slices.Equal(got, all) {
		t.Error(got)
	}
	if got := Chain(l, 2, 15); !slices.Equal(got, []int{2, 3, 5, 7, 9, 11, 13, 15, 17, 19, 21, 23, 25, 27, 29, 31}) {
		t.Error(got)
	}
}

// P6.3, P6.4: End changes one office, and nobody's duties on the days before.
func TestEnd(t *testing.T) {
	r := rand.New(rand.NewSource(63))
	ended := 0
	for range 5000 {
		l := random(r)
		was := copied(l)
		i := r.Intn(len(l))
		id, day := l[i].ID, l[i].In.From+1+r.Intn(3)
		var next []int
		for _, o := range l {
			if o.In.From == day && r.Intn(2) == 0 {
				next = append(next, o.ID)
			}
		}
		m, e := End(l, id, day, next)
		if day > l[i].In.Until {
			if len(m) != 0 || e != api.ErrRange {
				t.Fatal(l, id, day, m, e)
			}
			continue
		}
		want := copied(l)
		want[i].In.Until, want[i].Next = day, next
		if e != api.OK || !same(m, want) {
			t.Fatal(l, id, day, m, e)
		}
		if at, e := Check(m); at != -1 || e != api.OK {
			t.Fatal(m, at, e)
		}
		for _, o := range l {
			for d := -1; d < day; d++ {
				if !slices.Equal(Duties(m, o.ID, d), Duties(l, o.ID, d)) {
					t.Fatal(l, m, o.ID, d)
				}
			}
		}
		given := slices.Clone(next)
		for k := range m {
			for n := range m[k].Next {
				m[k].Next[n] = -1
			}
			m[k].Name = "spoilt"
		}
		if !same(l, was) || !slices.Equal(next, given) {
			t.Fatal("shared", l, next)
		}
		ended++
	}
	if ended < 1000 {
		t.Error(ended)
	}
}

// P6.3: the days on which an office can end, and the errors in their order.
func TestEndErrors(t *testing.T) {
	nine := []int{1, 2, 3, 4, 5, 6, 7, 8, 9}
	for i, x := range []struct {
		id, day int
		next    []int
		e       api.Errno
	}{
		{1, 100, []int{2, 3}, api.OK}, {1, 100, []int{3}, api.OK}, {1, 100, nil, api.OK}, {1, 100, []int{}, api.OK}, {1, 1, nil, api.OK}, {1, 99, nil, api.OK},
		{3, 101, nil, api.OK}, {3, 200, []int{4}, api.OK}, {3, api.Forever, nil, api.OK}, {3, api.MaxDay, nil, api.OK},
		{5, 150, nil, api.ErrNotFound}, {0, 150, nil, api.ErrNotFound}, {-1, -1, nine, api.ErrNotFound}, {5, 0, nine, api.ErrNotFound},
		{1, 0, nil, api.ErrRange}, {1, 101, nil, api.ErrRange}, {1, -1, nil, api.ErrRange}, {1, math.MinInt, nil, api.ErrRange}, {1, math.MaxInt, nil, api.ErrRange},
		{3, 100, []int{4, 4}, api.ErrRange}, {3, 99, []int{9}, api.ErrRange}, {3, api.Forever + 1, nil, api.ErrRange},
		{1, 100, nine, api.ErrRange}, {1, 100, []int{2, 2}, api.ErrTwice}, {1, 100, []int{9, 9}, api.ErrTwice}, {1, 100, []int{2, 9}, api.ErrNotFound}, {1, 100, []int{4, 9}, api.ErrNotFound},
		{1, 100, []int{4}, api.ErrMismatch}, {1, 99, []int{2}, api.ErrMismatch}, {1, 100, []int{1}, api.ErrMismatch}, {3, api.Forever, []int{4}, api.ErrMismatch}, {3, 200, []int{4, 2}, api.ErrMismatch},
	} {
		l := example()
		m, e := End(l, x.id, x.day, x.next)
		if e != x.e || e != api.OK && len(m) != 0 || e == api.OK && len(m) != 4 || !same(l, example()) {
			t.Error(i, m, e)
		}
	}
	wrong := example()
	wrong[3].Name = ""
	for i, l := range [][]api.Office{wrong, make([]api.Office, api.MaxOffices+1)} {
		for _, id := range []int{1, 9, 0} {
			if m, e := End(l, id, -5, nine); len(m) != 0 || e != api.ErrArg {
				t.Error(i, id, m, e)
			}
		}
	}
	if m, e := End(nil, 1, 5, nil); len(m) != 0 || e != api.ErrNotFound {
		t.Error(m, e)
	}
}
