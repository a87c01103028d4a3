package disposal

import (
	"crypto/sha3"
	"math"
	"math/rand"
	"reflect"
	"slices"
	"strconv"
	"strings"
	"testing"

	"archivum/api"
	"archivum/copies"
	"archivum/verdict"
)

var always = api.Span{From: 0, Until: api.Forever}

func span(from, until int) api.Span { return api.Span{From: from, Until: until} }

func pick[T any](r *rand.Rand, l ...T) T { return l[r.Intn(len(l))] }

var zeros = strings.Repeat("\x00", 32)

// digestModel is the digest of a certificate by Go's own SHA3.
func digestModel(c api.Certificate) string {
	text := "certificate " + strconv.Itoa(c.Number) + " proposal " + strconv.Itoa(c.Proposal) + " day " + strconv.Itoa(c.Day) + " files"
	for _, id := range c.Files {
		text += " " + strconv.Itoa(id)
	}
	sum := sha3.Sum256([]byte(text + "\n" + c.Before))
	return string(sum[:])
}

// chained gives certificates their numbers and digests.
func chained(l ...api.Certificate) []api.Certificate {
	before := zeros
	for i := range l {
		l[i].Number, l[i].Before = i+1, before
		l[i].Digest = digestModel(l[i])
		before = l[i].Digest
	}
	return l
}

// base returns a registry without proposals: all files may be destroyed from day
// 11 on, but 7 not from day 12 to 19; 9 is to be transferred, and 11 is open.
func base() api.Registry {
	x := api.Registry{
		Offices: []api.Office{{ID: 1, Name: "Mills", In: span(0, 90), Next: []int{2}}, {ID: 2, Name: "Works", In: span(90, api.Forever)}},
		Plans: []api.Plan{
			{Version: 1, In: span(0, 80), Classes: []api.Class{{Code: "1", Title: "Mills"}, {Code: "2", Title: "Water"}}},
			{Version: 2, In: span(80, api.Forever), Classes: []api.Class{{Code: "1", Title: "Mills"}, {Code: "3", Title: "Water"}}, Moved: []api.Moved{{From: "2", To: "3"}}},
		},
		Rules: []api.Rule{{ID: 3, Class: "1", Trigger: "closed", Action: api.ActionDestroy, In: always}},
		Holds: []api.Hold{{ID: 2, Kind: api.HoldFile, Of: 7, Reason: "Inquiry", In: span(12, 20)}},
		Clerks: []api.Clerk{
			{ID: 1, Role: api.RoleManager, Name: "Ames", In: always},
			{ID: 2, Role: api.RoleManager, Name: "Bell", In: always},
			{ID: 3, Role: api.RoleArchivist, Name: "Cole", In: always},
			{ID: 5, Role: api.RoleAuditor, Name: "Dunn", In: always},
			{ID: 8, Role: api.RoleArchivist, Name: "Eden", In: span(10, 30)},
		},
		Selections: []api.Selection{{Sample: 4, Day: 11, Files: []int{9}}},
		Changed:    11,
	}
	for _, id := range []int{3, 5, 7, 9, 11} {
		x.Files = append(x.Files, api.File{ID: id, Office: 1, Opened: 5, Closed: 10, Class: "1", Title: "Letters", Notes: []api.Note{{Name: "paid", Day: api.Dating{First: 6, Last: 7}, Recorded: 8}}})
	}
	x.Files[4].Closed = api.Forever
	return x
}

// full returns a registry with proposals (of which 1 was withdrawn, and 2 and 4
// were done), approvals and certificates.
func full() api.Registry {
	x := base()
	x.Proposals = []api.Proposal{
		{ID: 1, Day: 12, Clerk: 2, Files: []int{3, 5}, Withdrawn: 14},
		{ID: 2, Day: 14, Clerk: 1, Files: []int{3, 7}, Withdrawn: api.Forever},
		{ID: 4, Day: 15, Clerk: 3, Files: []int{5}, Withdrawn: api.Forever},
	}
	x.Approvals = []api.Approval{{Proposal: 2, Day: 15, Clerk: 2}, {Proposal: 2, Day: 16, Clerk: 3}, {Proposal: 4, Day: 16, Clerk: 2}, {Proposal: 4, Day: 17, Clerk: 8}}
	x.Certificates = chained(api.Certificate{Proposal: 2, Day: 20, Files: []int{3, 7}}, api.Certificate{Proposal: 4, Day: 20, Files: []int{5}})
	x.Departures = []api.Departure{{File: 9, Day: 30}}
	return x
}

// equal reports whether two values are the same; nil lists and empty ones are.
func equal(a, b reflect.Value) bool {
	switch a.Kind() {
	case reflect.Slice:
		if a.Len() != b.Len() {
			return false
		}
		for i := range a.Len() {
			if !equal(a.Index(i), b.Index(i)) {
				return false
			}
		}
		return true
	case reflect.Struct:
		for i := range a.NumField() {
			if !equal(a.Field(i), b.Field(i)) {
				return false
			}
		}
		return true
	}
	return a.Equal(b)
}

func same(a, b api.Registry) bool { return equal(reflect.ValueOf(a), reflect.ValueOf(b)) }

func isZero(x api.Registry) bool { return same(x, api.Registry{}) }

// scribble overwrites all that is reached by the lists of a value.
func scribble(v reflect.Value) {
	switch v.Kind() {
	case reflect.Slice:
		for i := range v.Len() {
			scribble(v.Index(i))
			if v.Index(i).Kind() != reflect.Slice {
				v.Index(i).SetZero()
			}
		}
	case reflect.Struct:
		for i := range v.NumField() {
			scribble(v.Field(i))
		}
	}
}

// apart checks that a result shares no memory with an argument, which is no more
// the same afterwards.
func apart(t *testing.T, x, result api.Registry) {
	t.Helper()
	was, kept := copies.Registry(x), copies.Registry(result)
	scribble(reflect.ValueOf(result))
	if !same(x, was) {
		t.Error("the argument is shared")
	}
	result = copies.Registry(kept)
	scribble(reflect.ValueOf(x))
	if !same(result, kept) || same(x, was) {
		t.Error("the result is shared")
	}
}

// alone checks that no two lists of a value share memory, though their elements
// are not overwritten with the same values.
func alone(t *testing.T, x api.Registry) {
	t.Helper()
	seen := map[uintptr]bool{}
	var visit func(v reflect.Value)
	visit = func(v reflect.Value) {
		switch v.Kind() {
		case reflect.Slice:
			if v.Len() > 0 && seen[v.Pointer()] {
				t.Error("shared inside")
			}
			seen[v.Pointer()] = true
			for i := range v.Len() {
				if v.Index(i).Kind() == reflect.Struct {
					visit(v.Index(i))
				}
			}
		case reflect.Struct:
			for i := range v.NumField() {
				visit(v.Field(i))
			}
		}
	}
	visit(reflect.ValueOf(x))
}

// P14.1: registries without a fault, up to the limits.
func TestCheckGood(t *testing.T) {
	clerks := base()
	clerks.Clerks = nil
	for i := range api.MaxClerks {
		clerks.Clerks = append(clerks.Clerks, api.Clerk{ID: api.MaxID - api.MaxClerks + 1 + i, Role: 1 + i%3, Name: "Ames", In: span(i, api.Forever)})
	}
	clerks.Clerks[0].ID = 1
	most := base()
	for i := range api.MaxList {
		most.Proposals = append(most.Proposals, api.Proposal{ID: i + 1, Day: 20 + i, Clerk: 1, Files: []int{3, 5, 7, 9, 11}, Withdrawn: 21 + i})
		most.Approvals = append(most.Approvals, api.Approval{Proposal: i + 1, Day: 20 + i, Clerk: 2})
	}
	ends := base()
	ends.Proposals = []api.Proposal{{ID: 1, Clerk: 1, Files: []int{3}, Withdrawn: 0}, {ID: 2, Clerk: 1, Files: []int{3}, Withdrawn: api.MaxDay}, {ID: api.MaxID, Day: api.MaxDay, Clerk: 1, Files: []int{3}, Withdrawn: api.Forever}}
	ends.Approvals = []api.Approval{{Proposal: 2, Day: api.MaxDay - 1, Clerk: 5}, {Proposal: api.MaxID, Day: api.MaxDay, Clerk: 5}, {Proposal: api.MaxID, Day: api.MaxDay, Clerk: 2}}
	// A clerk serves up to the day ahead of the end of the span.
	served := base()
	served.Proposals = []api.Proposal{{ID: 1, Day: 10, Clerk: 8, Files: []int{3}, Withdrawn: 11}, {ID: 2, Day: 29, Clerk: 8, Files: []int{3}, Withdrawn: api.Forever}, {ID: 3, Day: 29, Clerk: 1, Files: []int{5}, Withdrawn: api.Forever}}
	served.Approvals = []api.Approval{{Proposal: 3, Day: 29, Clerk: 8}}
	// An approval can come behind the certificate.
	late := full()
	late.Approvals = append(late.Approvals, api.Approval{Proposal: 2, Day: 99, Clerk: 5})
	for i, x := range []api.Registry{{}, base(), full(), clerks, most, ends, served, late, {Changed: -1}} {
		was := copies.Registry(x)
		if e := Check(x); e != api.OK || !same(x, was) {
			t.Error(i, e)
		}
	}
}

// change is a change of the full registry that makes a fault. Two changes that
// share a word of their fields cannot be made together.
type change struct {
	e      api.Errno
	fields string
	apply  func(x *api.Registry)
}

func excludes(a, b change) bool {
	return slices.ContainsFunc(strings.Fields(a.fields), func(s string) bool { return slices.Contains(strings.Fields(b.fields), s) })
}

// faults are changes in the order in which their errors count.
func faults() []change {
	l := []change{
		{api.ErrName, "", func(x *api.Registry) { x.Offices[0].Name = "" }},
		{api.ErrRange, "", func(x *api.Registry) { x.Certificates[0].Number = 0 }},
		{api.ErrNotFound, "certificate1.files", func(x *api.Registry) { x.Certificates[1].Files = []int{4} }},
		{api.ErrTwice, "certificate0.files", func(x *api.Registry) { x.Departures = append(x.Departures, api.Departure{File: 7, Day: 99}) }},

		{api.ErrTooLarge, "", func(x *api.Registry) { x.Clerks = append(x.Clerks, make([]api.Clerk, api.MaxClerks-4)...) }},
	}
	for i := range 2 {
		l = append(l,
			change{api.ErrRange, "", func(x *api.Registry) { x.Clerks[i].Role = 0 }},
			change{api.ErrName, "", func(x *api.Registry) { x.Clerks[i].Name = " " }})
	}
	l = append(l,
		change{api.ErrOrder, "", func(x *api.Registry) { x.Clerks[1].ID = 1 }},
		change{api.ErrTooLarge, "", func(x *api.Registry) { x.Proposals = append(x.Proposals, make([]api.Proposal, api.MaxList-2)...) }})
	l = append(l, proposalFaults(0)...)
	l = append(l, proposalFaults(1)...)
	l = append(l,
		change{api.ErrTwice, "", func(x *api.Registry) { x.Proposals[0].Withdrawn = 15 }},
		change{api.ErrTooLarge, "", func(x *api.Registry) { x.Approvals = append(x.Approvals, make([]api.Approval, api.MaxList-3)...) }})
	l = append(l, approvalFaults(0)...)
	l = append(l, approvalFaults(1)...)
	l = append(l, change{api.ErrTwice, "approval1.clerk", func(x *api.Registry) { x.Approvals[1].Clerk = 2 }})
	for i := range 2 {
		files := "certificate" + strconv.Itoa(i) + ".files"
		l = append(l,
			change{api.ErrNotFound, "", func(x *api.Registry) { x.Certificates[i].Proposal = 3 }},
			change{api.ErrMismatch, files, func(x *api.Registry) { x.Certificates[i].Files = nil }},
			change{api.ErrProof, "", func(x *api.Registry) { x.Certificates[i].Before = "" }})
	}
	return l
}

// proposalFaults are those of the proposal 1 or 2, which has the index i.
func proposalFaults(i int) []change {
	name := "proposal" + strconv.Itoa(i)
	l := []change{{api.ErrRange, "", func(x *api.Registry) { x.Proposals[i].ID = api.MaxID + 1 }}}
	if i > 0 {
		l = append(l, change{api.ErrOrder, "", func(x *api.Registry) { x.Proposals[i].Day = 11 }})
	}
	return append(l,
		change{api.ErrNotFound, name + ".clerk", func(x *api.Registry) { x.Proposals[i].Clerk = 4 }},
		change{api.ErrEmpty, name + ".files", func(x *api.Registry) { x.Proposals[i].Files = nil }},
		change{api.ErrNotFound, name + ".files", func(x *api.Registry) { x.Proposals[i].Files = []int{5, 3, 4} }},
		change{api.ErrOrder, name + ".files", func(x *api.Registry) { x.Proposals[i].Files = []int{3, 3} }})
}

// approvalFaults are those of the approvals of the proposal 2, on the days 15 and 16.
func approvalFaults(i int) []change {
	name := "approval" + strconv.Itoa(i)
	l := []change{
		{api.ErrNotFound, "", func(x *api.Registry) { x.Approvals[i].Proposal = 3 }},
		{api.ErrRange, name + ".day", func(x *api.Registry) { x.Approvals[i].Day = 13 }},
	}
	if i > 0 {
		l = append(l, change{api.ErrOrder, name + ".day", func(x *api.Registry) { x.Approvals[i].Day = 14 }})
	}
	return append(l,
		change{api.ErrState, "proposal1.withdrawn", func(x *api.Registry) { x.Proposals[1].Withdrawn = 15 + i }},
		change{api.ErrNotFound, name + ".clerk", func(x *api.Registry) { x.Approvals[i].Clerk = 4 }},
		change{api.ErrDenied, "proposal1.clerk " + name + ".clerk", func(x *api.Registry) { x.Proposals[1].Clerk = 2 + i }})
}

// refused checks that no other function takes a registry with a fault.
func refused(t *testing.T, x api.Registry) {
	t.Helper()
	if y, e := Propose(x, api.Proposal{}); e != api.ErrArg || !isZero(y) {
		t.Error(e)
	}
	if y, e := Approve(x, api.Approval{}); e != api.ErrArg || !isZero(y) {
		t.Error(e)
	}
	for _, id := range []int{2, 3} {
		for _, day := range []int{20, -1} {
			if y, e := Withdraw(x, id, day); e != api.ErrArg || !isZero(y) {
				t.Error(e)
			}
			if e := Ready(x, id, day); e != api.ErrArg {
				t.Error(e)
			}
			if y, c, e := Destroy(x, id, day); e != api.ErrArg || !isZero(y) || !reflect.DeepEqual(c, api.Certificate{}) {
				t.Error(e)
			}
		}
	}
}

// P14.1: each fault has its error, and of two faults the first one counts.
func TestCheckFaults(t *testing.T) {
	for i, a := range faults() {
		x := full()
		a.apply(&x)
		if e := Check(x); e != a.e {
			t.Error(i, e)
		}
		refused(t, x)
		for k, b := range faults()[i+1:] {
			if excludes(a, b) {
				continue
			}
			x := full()
			a.apply(&x)
			b.apply(&x)
			if e := Check(x); e != a.e {
				t.Error(i, i+1+k, e)
			}
		}
	}
}

// P14.1: what is a fault of a clerk.
func TestCheckClerks(t *testing.T) {
	good := api.Clerk{ID: 8, Role: api.RoleAuditor, Name: "Eden", In: span(10, 30)}
	for i, c := range []struct {
		e     api.Errno
		apply func(c *api.Clerk)
	}{
		{api.OK, func(c *api.Clerk) {}}, {api.OK, func(c *api.Clerk) { c.ID = api.MaxID }}, {api.OK, func(c *api.Clerk) { c.ID = 6 }}, {api.OK, func(c *api.Clerk) { c.In = span(api.MaxDay, api.Forever) }}, {api.OK, func(c *api.Clerk) { c.Name = strings.Repeat("~", 64) }},
		{api.ErrRange, func(c *api.Clerk) { c.ID = 0 }}, {api.ErrRange, func(c *api.Clerk) { c.ID = -1 }}, {api.ErrRange, func(c *api.Clerk) { c.ID = api.MaxID + 1 }}, {api.ErrRange, func(c *api.Clerk) { c.ID = math.MinInt }},
		{api.ErrRange, func(c *api.Clerk) { c.Role = 0 }}, {api.ErrRange, func(c *api.Clerk) { c.Role = 4 }}, {api.ErrRange, func(c *api.Clerk) { c.Role = math.MaxInt }},
		{api.ErrRange, func(c *api.Clerk) { c.In = span(5, 5) }}, {api.ErrRange, func(c *api.Clerk) { c.In = span(-1, 5) }}, {api.ErrRange, func(c *api.Clerk) { c.In = span(5, api.Forever+1) }}, {api.ErrRange, func(c *api.Clerk) { c.In = api.Span{} }},
		{api.ErrRange, func(c *api.Clerk) { c.In, c.Name = span(5, 4), "" }}, {api.ErrRange, func(c *api.Clerk) { c.Role, c.Name, c.ID = 4, "", 1 }},
		{api.ErrName, func(c *api.Clerk) { c.Name = "" }}, {api.ErrName, func(c *api.Clerk) { c.Name = "a  b" }}, {api.ErrName, func(c *api.Clerk) { c.Name = "a\n" }}, {api.ErrName, func(c *api.Clerk) { c.Name = "é" }}, {api.ErrName, func(c *api.Clerk) { c.Name = strings.Repeat("~", 65) }}, {api.ErrName, func(c *api.Clerk) { c.Name, c.ID = " a", 5 }},
		{api.ErrOrder, func(c *api.Clerk) { c.ID = 5 }}, {api.ErrOrder, func(c *api.Clerk) { c.ID = 1 }},
	} {
		x := base()
		x.Clerks[4] = good
		c.apply(&x.Clerks[4])
		if e := Check(x); e != c.e {
			t.Error(i, e)
		}
	}
}

// P14.1, P14.2: what is a fault of the last proposal, by itself and by Propose.
func TestPropose(t *testing.T) {
	good := api.Proposal{ID: 6, Day: 15, Clerk: 1, Files: []int{9, 11}, Withdrawn: api.Forever}
	for i, c := range []struct {
		e     api.Errno
		apply func(p *api.Proposal)
	}{
		{api.OK, func(p *api.Proposal) {}}, {api.OK, func(p *api.Proposal) { p.ID, p.Day = 5, api.MaxDay }}, {api.OK, func(p *api.Proposal) { p.ID = api.MaxID }}, {api.OK, func(p *api.Proposal) { p.Day, p.Clerk = 29, 8 }},
		{api.ErrRange, func(p *api.Proposal) { p.ID = 0 }}, {api.ErrRange, func(p *api.Proposal) { p.ID = api.MaxID + 1 }}, {api.ErrRange, func(p *api.Proposal) { p.Day = -1 }}, {api.ErrRange, func(p *api.Proposal) { p.Day = api.Forever }}, {api.ErrRange, func(p *api.Proposal) { p.Day = math.MaxInt }},
		{api.ErrOrder, func(p *api.Proposal) { p.ID = 4 }}, {api.ErrOrder, func(p *api.Proposal) { p.ID = 1 }}, {api.ErrOrder, func(p *api.Proposal) { p.Day, p.Clerk = 14, 4 }}, {api.ErrOrder, func(p *api.Proposal) { p.Day = 0 }},
		{api.ErrNotFound, func(p *api.Proposal) { p.Clerk = 4 }}, {api.ErrNotFound, func(p *api.Proposal) { p.Clerk, p.Files = 0, nil }}, {api.ErrNotFound, func(p *api.Proposal) { p.Day, p.Clerk = 30, 8 }}, {api.ErrNotFound, func(p *api.Proposal) { p.Clerk = math.MinInt }},
		{api.ErrEmpty, func(p *api.Proposal) { p.Files = nil }}, {api.ErrEmpty, func(p *api.Proposal) { p.Files = []int{} }},
		{api.ErrNotFound, func(p *api.Proposal) { p.Files = []int{11, 9, 4} }}, {api.ErrNotFound, func(p *api.Proposal) { p.Files = []int{0} }}, {api.ErrNotFound, func(p *api.Proposal) { p.Files = []int{9, math.MaxInt} }},
		{api.ErrOrder, func(p *api.Proposal) { p.Files = []int{11, 9} }}, {api.ErrOrder, func(p *api.Proposal) { p.Files = []int{9, 9} }}, {api.ErrOrder, func(p *api.Proposal) { p.Files = []int{5, 3} }},
		// What is destroyed remains proposed.
		{api.ErrTwice, func(p *api.Proposal) { p.Files = []int{3} }}, {api.ErrTwice, func(p *api.Proposal) { p.Files, p.Day = []int{5, 9}, api.MaxDay }},
	} {
		x, p := full(), good
		p.Files = slices.Clone(good.Files)
		c.apply(&p)
		given := slices.Clone(p.Files)
		y, e := Propose(x, p)
		if e != c.e || e != api.OK && !isZero(y) || !same(x, full()) || !slices.Equal(p.Files, given) {
			t.Error(i, e)
		}
		want := full()
		want.Proposals = append(want.Proposals, p)
		if e := Check(want); e != c.e {
			t.Error(i, e)
		}
		if c.e == api.OK {
			if !same(y, want) {
				t.Error(i, y)
			}
			alone(t, y)
			clear(p.Files)
			if !slices.Equal(y.Proposals[3].Files, given) {
				t.Error(i, "shared")
			}
			apart(t, x, y)
		}
		for _, until := range []int{0, 14, 15, 16, api.MaxDay, api.Forever + 1, math.MinInt, math.MaxInt} {
			p.Withdrawn = until
			if y, e := Propose(full(), p); e != api.ErrState || !isZero(y) {
				t.Error(i, until, e)
			}
		}
	}
}

// P14.1: until when a file is proposed, and the bounds of Withdrawn.
func TestCheckWithdrawn(t *testing.T) {
	for i, c := range []struct {
		until, day int
		e          api.Errno
	}{
		{14, 14, api.OK}, {15, 14, api.ErrTwice}, {14, 13, api.ErrTwice}, {api.MaxDay, api.MaxDay, api.OK}, {api.Forever, api.MaxDay, api.ErrTwice}, {12, 12, api.OK},
		{11, 14, api.ErrRange}, {-1, 14, api.ErrRange}, {api.Forever + 1, 14, api.ErrRange}, {math.MaxInt, 14, api.ErrRange}, {math.MinInt, 14, api.ErrRange},
	} {
		x := base()
		x.Proposals = []api.Proposal{{ID: 1, Day: 12, Clerk: 1, Files: []int{3, 5}, Withdrawn: c.until}, {ID: 2, Day: 12, Clerk: 1, Files: []int{7}, Withdrawn: api.Forever}, {ID: 3, Day: c.day, Clerk: 1, Files: []int{5, 9}, Withdrawn: api.Forever}}
		if e := Check(x); e != c.e {
			t.Error(i, e)
		}
	}
}

// P14.1, P14.2: what is a fault of the last approval, by itself and by Approve.
func TestApprove(t *testing.T) {
	good := api.Approval{Proposal: 6, Day: 18, Clerk: 2}
	open := func() api.Registry {
		x := full()
		x.Proposals = append(x.Proposals, api.Proposal{ID: 6, Day: 16, Clerk: 1, Files: []int{9}, Withdrawn: api.Forever}, api.Proposal{ID: 7, Day: 16, Clerk: 1, Files: []int{11}, Withdrawn: 19})
		x.Approvals = append(x.Approvals, api.Approval{Proposal: 6, Day: 17, Clerk: 5})
		return x
	}
	for i, c := range []struct {
		e     api.Errno
		apply func(a *api.Approval)
	}{
		{api.OK, func(a *api.Approval) {}}, {api.OK, func(a *api.Approval) { a.Day = 17 }}, {api.OK, func(a *api.Approval) { a.Day = api.MaxDay }}, {api.OK, func(a *api.Approval) { a.Proposal = 7 }}, {api.OK, func(a *api.Approval) { a.Day, a.Clerk = 29, 8 }}, {api.OK, func(a *api.Approval) { a.Proposal, a.Clerk, a.Day = 2, 5, 99 }},
		{api.ErrNotFound, func(a *api.Approval) { a.Proposal = 5 }}, {api.ErrNotFound, func(a *api.Approval) { a.Proposal, a.Day = 0, -1 }}, {api.ErrNotFound, func(a *api.Approval) { a.Proposal = math.MinInt }},
		{api.ErrRange, func(a *api.Approval) { a.Day = 15 }}, {api.ErrRange, func(a *api.Approval) { a.Day, a.Clerk = api.Forever, 4 }}, {api.ErrRange, func(a *api.Approval) { a.Day = -1 }}, {api.ErrRange, func(a *api.Approval) { a.Day = math.MaxInt }},
		{api.ErrOrder, func(a *api.Approval) { a.Day = 16 }}, {api.ErrOrder, func(a *api.Approval) { a.Proposal, a.Day = 1, 14 }},
		{api.ErrState, func(a *api.Approval) { a.Proposal, a.Day = 7, 19 }}, {api.ErrState, func(a *api.Approval) { a.Proposal, a.Day, a.Clerk = 7, 20, 4 }}, {api.ErrState, func(a *api.Approval) { a.Proposal, a.Clerk = 1, 2 }},
		{api.ErrNotFound, func(a *api.Approval) { a.Clerk = 4 }}, {api.ErrNotFound, func(a *api.Approval) { a.Clerk, a.Day = 8, 30 }}, {api.ErrNotFound, func(a *api.Approval) { a.Clerk = 0 }},
		{api.ErrDenied, func(a *api.Approval) { a.Clerk = 1 }}, {api.ErrDenied, func(a *api.Approval) { a.Proposal, a.Clerk = 4, 3 }},
		{api.ErrTwice, func(a *api.Approval) { a.Clerk = 5 }}, {api.ErrTwice, func(a *api.Approval) { a.Proposal, a.Clerk, a.Day = 2, 3, api.MaxDay }},
	} {
		x, a := open(), good
		c.apply(&a)
		y, e := Approve(x, a)
		if e != c.e || e != api.OK && !isZero(y) || !same(x, open()) {
			t.Error(i, e)
		}
		want := open()
		want.Approvals = append(want.Approvals, a)
		if e := Check(want); e != c.e {
			t.Error(i, e)
		}
		if c.e == api.OK {
			if !same(y, want) {
				t.Error(i, y)
			}
			alone(t, y)
			apart(t, x, y)
		}
	}
}

// P14.2: no more than 1024 proposals and approvals.
func TestFull(t *testing.T) {
	x := base()
	for i := range api.MaxList - 1 {
		x.Proposals = append(x.Proposals, api.Proposal{ID: i + 1, Day: i, Clerk: 1, Files: []int{3}, Withdrawn: i + 1})
		x.Approvals = append(x.Approvals, api.Approval{Proposal: i + 1, Day: i, Clerk: 2})
	}
	p := api.Proposal{ID: api.MaxList, Day: api.MaxList, Clerk: 1, Files: []int{3}, Withdrawn: api.Forever}
	a := api.Approval{Proposal: api.MaxList, Day: api.MaxList, Clerk: 2}
	x, e := Propose(x, p)
	if e != api.OK || len(x.Proposals) != api.MaxList {
		t.Fatal(e)
	}
	x, e = Approve(x, a)
	if e != api.OK || len(x.Approvals) != api.MaxList {
		t.Fatal(e)
	}
	p.ID, p.Files, a.Clerk = p.ID+1, []int{5}, 3
	if y, e := Propose(x, p); e != api.ErrTooLarge || !isZero(y) {
		t.Error(e)
	}
	if y, e := Approve(x, a); e != api.ErrTooLarge || !isZero(y) {
		t.Error(e)
	}
	if y, e := Propose(x, api.Proposal{Withdrawn: api.Forever}); e != api.ErrTooLarge || !isZero(y) {
		t.Error(e)
	}
	if y, e := Approve(x, api.Approval{}); e != api.ErrTooLarge || !isZero(y) {
		t.Error(e)
	}
}

// P14.2: what can be withdrawn, and when.
func TestWithdraw(t *testing.T) {
	open := func() api.Registry {
		x := full()
		x.Proposals = append(x.Proposals, api.Proposal{ID: 6, Day: 16, Clerk: 1, Files: []int{9}, Withdrawn: api.Forever}, api.Proposal{ID: 7, Day: 16, Clerk: 1, Files: []int{11}, Withdrawn: api.Forever})
		x.Approvals = append(x.Approvals, api.Approval{Proposal: 6, Day: 18, Clerk: 5}, api.Approval{Proposal: 6, Day: 20, Clerk: 2}, api.Approval{Proposal: 4, Day: 40, Clerk: 1})
		return x
	}
	for i, c := range []struct {
		id, day int
		e       api.Errno
	}{
		{6, 21, api.OK}, {6, api.MaxDay, api.OK}, {7, 16, api.OK}, {7, 17, api.OK},
		{3, 20, api.ErrNotFound}, {0, -1, api.ErrNotFound}, {math.MinInt, 20, api.ErrNotFound}, {8, api.Forever, api.ErrNotFound},
		{6, 15, api.ErrRange}, {7, 15, api.ErrRange}, {7, api.Forever, api.ErrRange}, {7, -1, api.ErrRange}, {1, 11, api.ErrRange}, {2, 13, api.ErrRange}, {2, math.MaxInt, api.ErrRange}, {2, math.MinInt, api.ErrRange},
		// Withdrawn, done, and approved on the day or later.
		{1, 12, api.ErrState}, {1, 14, api.ErrState}, {1, 20, api.ErrState}, {2, 17, api.ErrState}, {2, 50, api.ErrState}, {4, 50, api.ErrState}, {6, 20, api.ErrState}, {6, 19, api.ErrState}, {6, 16, api.ErrState},
	} {
		x := open()
		y, e := Withdraw(x, c.id, c.day)
		if e != c.e || e != api.OK && !isZero(y) || !same(x, open()) {
			t.Error(i, e)
		}
		if c.e != api.OK {
			continue
		}
		want := open()
		want.Proposals[find(want.Proposals, c.id)].Withdrawn = c.day
		if !same(y, want) || Check(y) != api.OK {
			t.Error(i, y)
		}
		alone(t, y)
		apart(t, x, y)
	}
}

// P14.2: the example of the chapter.
func TestReadyExample(t *testing.T) {
	x := base()
	for _, step := range []func() api.Errno{
		func() (e api.Errno) {
			x, e = Propose(x, api.Proposal{ID: 1, Day: 11, Clerk: 1, Files: []int{7}, Withdrawn: api.Forever})
			return e
		},
		func() (e api.Errno) {
			x, e = Approve(x, api.Approval{Proposal: 1, Day: 11, Clerk: 2})
			return e
		},
		func() (e api.Errno) {
			x, e = Approve(x, api.Approval{Proposal: 1, Day: 20, Clerk: 3})
			return e
		},
	} {
		if e := step(); e != api.OK {
			t.Fatal(e)
		}
	}
	for day, want := range map[int]api.Errno{0: api.ErrOrder, 10: api.ErrOrder, 11: api.ErrDenied, 19: api.ErrDenied, 20: api.OK, 21: api.OK, api.MaxDay: api.OK} {
		if e := Ready(x, 1, day); e != want {
			t.Error(day, e)
		}
		if y, c, e := Destroy(x, 1, day); e != want || e != api.OK && (!isZero(y) || !reflect.DeepEqual(c, api.Certificate{})) {
			t.Error(day, c, e)
		}
	}
	y, c, e := Destroy(x, 1, 20)
	sum := sha3.Sum256([]byte("certificate 1 proposal 1 day 20 files 7\n" + zeros))
	want := api.Certificate{Number: 1, Proposal: 1, Day: 20, Files: []int{7}, Before: zeros, Digest: string(sum[:])}
	if e != api.OK || !reflect.DeepEqual(c, want) || !same(y, func() api.Registry { x.Certificates = []api.Certificate{want}; return x }()) {
		t.Error(y, c, e)
	}
	if e := Ready(y, 1, 20); e != api.ErrState {
		t.Error(e)
	}
}

// P14.2: what a proposal needs, one after the other: each step takes away the
// fault that is found first.
func TestReadyRows(t *testing.T) {
	x := base()
	x.Proposals = []api.Proposal{{ID: 1, Day: 21, Clerk: 3, Files: []int{3, 7, 9}, Withdrawn: api.Forever}, {ID: 2, Day: 21, Clerk: 3, Files: []int{5}, Withdrawn: api.Forever}}
	x.Approvals = []api.Approval{{Proposal: 2, Day: 21, Clerk: 8}, {Proposal: 2, Day: 21, Clerk: 1}}
	approve := func(day, clerk int) func() {
		return func() { x.Approvals = append(x.Approvals, api.Approval{Proposal: 1, Day: day, Clerk: clerk}) }
	}
	day := 20
	for i, step := range []struct {
		apply func()
		e     api.Errno
	}{
		{func() {}, api.ErrOrder},
		{func() { day, x.Proposals[0].Withdrawn = 22, 22 }, api.ErrState},
		{func() { day, x.Proposals[0].Withdrawn = 21, 22 }, api.ErrDenied},
		{func() {
			day, x.Proposals[0].Withdrawn = 25, api.Forever
			x.Certificates = chained(api.Certificate{Proposal: 1, Day: 90, Files: []int{3, 7, 9}})
		}, api.ErrState},
		{func() { x.Certificates = chained(api.Certificate{Proposal: 2, Day: 90, Files: []int{5}}) }, api.ErrDenied},
		{approve(21, 8), api.ErrDenied},
		{approve(26, 1), api.ErrDenied},
		{func() { day = 26 }, api.ErrHeld},
		// Neither to be transferred, nor held, nor kept.
		{func() { x.Selections = nil }, api.OK},
		{func() { x.Holds[0].In.Until = 27 }, api.ErrHeld},
		{func() { day = 27 }, api.OK},
		{func() { x.Rules[0].Years = 1 }, api.ErrHeld},
		{func() { day = 10 + 366 }, api.ErrHeld},
		{func() { day++ }, api.OK},
		{func() { x.Files[3].Closed = api.Forever }, api.ErrHeld},
		{func() { x.Files[3].Closed, x.Departures = 10, []api.Departure{{File: 9, Day: day}} }, api.ErrHeld},
		{func() { x.Departures, x.Rules = nil, nil }, api.ErrHeld},
		{func() { x.Rules = base().Rules }, api.OK},
		{func() { day = api.MaxDay }, api.OK},
		// Of two managers, or of an auditor and a manager, none is an archivist.
		{func() { x.Clerks[4].Role = api.RoleManager }, api.ErrDenied},
		{func() { x.Clerks[4].Role = api.RoleAuditor }, api.ErrDenied},
		{func() { x.Clerks[0].Role = api.RoleArchivist }, api.OK},
		{func() { x.Approvals = slices.Delete(x.Approvals, 2, 3) }, api.ErrDenied},
	} {
		step.apply()
		was := copies.Registry(x)
		if e := Ready(x, 1, day); e != step.e || Check(x) != api.OK || !same(x, was) {
			t.Error(i, e, Check(x))
		}
	}
}

// P14.2, P14.3: invalid arguments of Ready and Destroy, in the order of their errors.
func TestErrors(t *testing.T) {
	for _, id := range []int{3, 0, -1, math.MaxInt, math.MinInt} {
		for _, day := range []int{20, -1, api.Forever} {
			if e := Ready(full(), id, day); e != api.ErrNotFound {
				t.Error(id, day, e)
			}
			if y, c, e := Destroy(full(), id, day); e != api.ErrNotFound || !isZero(y) || !reflect.DeepEqual(c, api.Certificate{}) {
				t.Error(id, day, e)
			}
		}
	}
	for _, id := range []int{1, 2} {
		for _, day := range []int{-1, api.Forever, math.MinInt, math.MaxInt} {
			if e := Ready(full(), id, day); e != api.ErrRange {
				t.Error(id, day, e)
			}
			if y, c, e := Destroy(full(), id, day); e != api.ErrRange || !isZero(y) || !reflect.DeepEqual(c, api.Certificate{}) {
				t.Error(id, day, e)
			}
		}
	}
}

// P14.3: Destroy needs that it is not earlier than the last certificate, and that
// none of the files departs later.
func TestDestroy(t *testing.T) {
	open := func() api.Registry {
		x := full()
		x.Proposals = append(x.Proposals, api.Proposal{ID: 6, Day: 16, Clerk: 1, Files: []int{9, 11}, Withdrawn: api.Forever})
		x.Approvals = append(x.Approvals, api.Approval{Proposal: 6, Day: 18, Clerk: 2}, api.Approval{Proposal: 6, Day: 18, Clerk: 3})
		x.Selections, x.Files[4].Closed, x.Departures = nil, 17, nil
		return x
	}
	for i, c := range []struct {
		day   int
		e     api.Errno
		apply func(x *api.Registry)
	}{
		{17, api.ErrDenied, func(x *api.Registry) {}},
		{18, api.ErrOrder, func(x *api.Registry) {}},
		{19, api.ErrOrder, func(x *api.Registry) {}},
		{19, api.ErrOrder, func(x *api.Registry) { x.Departures = []api.Departure{{File: 11, Day: 40}} }},
		{30, api.ErrTwice, func(x *api.Registry) { x.Departures = []api.Departure{{File: 11, Day: 31}} }},
		{30, api.ErrTwice, func(x *api.Registry) { x.Departures = []api.Departure{{File: 9, Day: api.MaxDay}} }},
		{30, api.ErrHeld, func(x *api.Registry) { x.Departures = []api.Departure{{File: 9, Day: 30}} }},
		{20, api.OK, func(x *api.Registry) {}},
		{api.MaxDay, api.OK, func(x *api.Registry) {}},
		{19, api.OK, func(x *api.Registry) { x.Certificates = nil }},
		{18, api.OK, func(x *api.Registry) {
			x.Certificates = x.Certificates[:1]
			x.Certificates[0].Day = 18
			x.Certificates = chained(x.Certificates...)
		}},
	} {
		x := open()
		c.apply(&x)
		was := copies.Registry(x)
		y, made, e := Destroy(x, 6, c.day)
		if e != c.e || !same(x, was) {
			t.Error(i, e)
		}
		if c.e != api.OK {
			if !isZero(y) || !reflect.DeepEqual(made, api.Certificate{}) {
				t.Error(i, y, made)
			}
			continue
		}
		want := copies.Registry(was)
		want.Certificates = chained(append(want.Certificates, api.Certificate{Proposal: 6, Day: c.day, Files: []int{9, 11}})...)
		last := len(want.Certificates) - 1
		if !same(y, want) || !reflect.DeepEqual(made, want.Certificates[last]) || Check(y) != api.OK {
			t.Error(i, y, made)
		}
		alone(t, y)
		clear(made.Files)
		if !slices.Equal(y.Certificates[last].Files, []int{9, 11}) || !slices.Equal(y.Proposals[3].Files, []int{9, 11}) || !same(x, was) {
			t.Error(i, "shared")
		}
		apart(t, x, y)
	}
}

// P14.1: digests, and certificates that have none.
func TestDigest(t *testing.T) {
	good := api.Certificate{Number: 1, Proposal: 2, Day: 40, Files: []int{3, 7}, Before: zeros}
	var most []int
	for i := range api.MaxFiles {
		most = append(most, api.MaxID-api.MaxFiles+1+i)
	}
	for i, c := range []struct {
		ok    bool
		apply func(c *api.Certificate)
	}{
		{true, func(c *api.Certificate) {}}, {true, func(c *api.Certificate) { c.Number, c.Proposal, c.Day = api.MaxID, api.MaxID, api.MaxDay }}, {true, func(c *api.Certificate) { c.Number, c.Proposal, c.Day = 1, 1, 0 }},
		{true, func(c *api.Certificate) { c.Files = []int{1} }}, {true, func(c *api.Certificate) { c.Files = most }}, {true, func(c *api.Certificate) { c.Files = []int{1, api.MaxID} }},
		{true, func(c *api.Certificate) {
			c.Before = "certificate 1 proposal 2\n\x00\x01\xff 4" + strings.Repeat("\n", 2)
		}}, {true, func(c *api.Certificate) { c.Digest = "anything" }},
		{false, func(c *api.Certificate) { *c = api.Certificate{} }},
		{false, func(c *api.Certificate) { c.Number = 0 }}, {false, func(c *api.Certificate) { c.Number = -1 }}, {false, func(c *api.Certificate) { c.Number = api.MaxID + 1 }},
		{false, func(c *api.Certificate) { c.Proposal = 0 }}, {false, func(c *api.Certificate) { c.Proposal = math.MinInt }}, {false, func(c *api.Certificate) { c.Proposal = api.MaxID + 1 }},
		{false, func(c *api.Certificate) { c.Day = -1 }}, {false, func(c *api.Certificate) { c.Day = api.Forever }}, {false, func(c *api.Certificate) { c.Day = math.MaxInt }},
		{false, func(c *api.Certificate) { c.Files = nil }}, {false, func(c *api.Certificate) { c.Files = append([]int{1}, most...) }}, {false, func(c *api.Certificate) { c.Files = []int{0, 1} }}, {false, func(c *api.Certificate) { c.Files = []int{-3} }},
		{false, func(c *api.Certificate) { c.Files = []int{1, api.MaxID + 1} }}, {false, func(c *api.Certificate) { c.Files = []int{3, 3} }}, {false, func(c *api.Certificate) { c.Files = []int{7, 3} }}, {false, func(c *api.Certificate) { c.Files = []int{1, 5, 4} }},
		{false, func(c *api.Certificate) { c.Before = "" }}, {false, func(c *api.Certificate) { c.Before = zeros[1:] }}, {false, func(c *api.Certificate) { c.Before = zeros + "\x00" }},
	} {
		x := good
		c.apply(&x)
		was := slices.Clone(x.Files)
		s, e := Digest(x)
		if c.ok && (e != api.OK || s != digestModel(x)) || !c.ok && (e != api.ErrArg || s != "") || !slices.Equal(x.Files, was) {
			t.Error(i, e)
		}
	}
}

// chain returns a chain of certificates that is right.
func chain(n int) []api.Certificate {
	var l []api.Certificate
	for i := range n {
		l = append(l, api.Certificate{Proposal: 2*i + 1, Day: i / 2, Files: []int{3, 5 + i}})
	}
	return chained(l...)
}

// P14.1: chains that are right, also with days that decrease, and too long ones.
func TestChain(t *testing.T) {
	for _, n := range []int{0, 1, 2, 5, api.MaxList} {
		if i, e := Chain(chain(n)); i != -1 || e != api.OK {
			t.Error(n, i, e)
		}
	}
	if i, e := Chain(chained(api.Certificate{Proposal: 9, Day: 5, Files: []int{3}}, api.Certificate{Proposal: 9, Day: 0, Files: []int{3}})); i != -1 || e != api.OK {
		t.Error(i, e)
	}
	for _, l := range [][]api.Certificate{chain(api.MaxList + 1), make([]api.Certificate, api.MaxList+1)} {
		if i, e := Chain(l); i != -1 || e != api.ErrTooLarge {
			t.Error(i, e)
		}
	}
}

// P14.1, P14.4: no field can be changed unnoticed, and what has another place, or
// no digest, is wrong.
func TestChainChanged(t *testing.T) {
	digest := digestModel(chain(1)[0])
	for k, apply := range []func(c *api.Certificate){
		func(c *api.Certificate) { c.Number++ }, func(c *api.Certificate) { c.Number-- }, func(c *api.Certificate) { c.Number = -c.Number }, func(c *api.Certificate) { c.Proposal++ }, func(c *api.Certificate) { c.Proposal = 0 },
		func(c *api.Certificate) { c.Day++ }, func(c *api.Certificate) { c.Day = -1 }, func(c *api.Certificate) { c.Files[1]++ }, func(c *api.Certificate) { c.Files[0] = 0 }, func(c *api.Certificate) { c.Files = c.Files[:1] }, func(c *api.Certificate) { c.Files = nil }, func(c *api.Certificate) { c.Files = append(c.Files, 99) },
		func(c *api.Certificate) { c.Before = "\x01" + c.Before[1:] }, func(c *api.Certificate) { c.Before = "" }, func(c *api.Certificate) { c.Before = strings.Repeat("\x01", 32) }, func(c *api.Certificate) { c.Before += "\x00" },
		func(c *api.Certificate) { c.Digest = c.Digest[:31] + "\x00" + c.Digest[31:] }, func(c *api.Certificate) { c.Digest = "" }, func(c *api.Certificate) { c.Digest = strings.Repeat("\x01", 32) },
		// The digest is that of the changed certificate.
		func(c *api.Certificate) { c.Number++; c.Digest = digestModel(*c) }, func(c *api.Certificate) { c.Number = 0; c.Digest = digestModel(*c) }, func(c *api.Certificate) { c.Before = strings.Repeat("\x01", 32); c.Digest = digestModel(*c) },
		func(c *api.Certificate) { c.Proposal = 0; c.Digest = digestModel(*c) }, func(c *api.Certificate) { c.Files = []int{5, 3}; c.Digest = digestModel(*c) }, func(c *api.Certificate) { c.Files = nil; c.Digest = "" },
	} {
		for at := range 5 {
			l := chain(5)
			apply(&l[at])
			if i, e := Chain(l); i != at || e != api.ErrProof {
				t.Error(k, at, i, e)
			}
		}
	}
	for at := range 4 {
		// What has a digest of its own is found at the next certificate.
		l := chain(5)
		l[at].Day++
		l[at].Digest = digestModel(l[at])
		if i, e := Chain(l); i != at+1 || e != api.ErrProof {
			t.Error(at, i, e)
		}
		if i, e := Chain(slices.Delete(chain(5), at, at+1)); i != at || e != api.ErrProof {
			t.Error(at, i, e)
		}
		l = chain(5)
		l[at], l[at+1] = l[at+1], l[at]
		if i, e := Chain(l); i != at || e != api.ErrProof {
			t.Error(at, i, e)
		}
		if i, e := Chain(slices.Insert(chain(5), at, chain(5)[at])); i != at+1 || e != api.ErrProof {
			t.Error(at, i, e)
		}
	}
	if i, e := Chain([]api.Certificate{{Number: 1, Proposal: 1, Files: []int{3, 5}, Before: digest, Digest: digest}}); i != 0 || e != api.ErrProof {
		t.Error(i, e)
	}
}

// readyModel is what Ready says of a proposal by its definition.
func readyModel(t *testing.T, x api.Registry, id, day int) api.Errno {
	t.Helper()
	i := slices.IndexFunc(x.Proposals, func(p api.Proposal) bool { return p.ID == id })
	if i < 0 {
		return api.ErrNotFound
	}
	p := x.Proposals[i]
	if day < p.Day {
		return api.ErrOrder
	}
	for _, c := range x.Certificates {
		if c.Proposal == id {
			return api.ErrState
		}
	}
	if p.Withdrawn <= day {
		return api.ErrState
	}
	approved, archivist := 0, false
	for _, a := range x.Approvals {
		for _, c := range x.Clerks {
			if a.Proposal == id && a.Day <= day && c.ID == a.Clerk {
				approved++
				archivist = archivist || c.Role == api.RoleArchivist
			}
		}
	}
	if approved < 2 || !archivist {
		return api.ErrDenied
	}
	for _, f := range p.Files {
		if v, e := verdict.On(x, f, day); e != api.OK || v.Kind != api.VerdictDestroy {
			return api.ErrHeld
		}
	}
	return api.OK
}

// sound checks what follows for the last certificate: was is the registry ahead
// of it.
func sound(t *testing.T, was, x api.Registry) {
	t.Helper()
	c := x.Certificates[len(x.Certificates)-1]
	i := slices.IndexFunc(was.Proposals, func(p api.Proposal) bool { return p.ID == c.Proposal })
	p := was.Proposals[i]
	clerks := map[int]bool{p.Clerk: true}
	archivist := false
	for _, a := range was.Approvals {
		if a.Proposal == p.ID && a.Day <= c.Day {
			clerks[a.Clerk] = true
			archivist = archivist || a.Clerk != p.Clerk && was.Clerks[findClerk(was, a.Clerk)].Role == api.RoleArchivist
		}
	}
	if len(clerks) < 3 || !archivist || p.Withdrawn <= c.Day || c.Day < p.Day || isDone(was, p) {
		t.Fatal(was, c)
	}
	for _, id := range c.Files {
		v, _ := verdict.On(was, id, c.Day)
		if v.Kind != api.VerdictDestroy {
			t.Fatal(was, c)
		}
		for _, day := range []int{c.Day, c.Day + 1, api.MaxDay} {
			if v, e := verdict.On(x, id, day); e != api.OK || v.Kind != api.VerdictGone {
				t.Fatal(x, c, v, e)
			}
		}
	}
}

// step applies a random function to a registry, and returns the result, if there
// is one.
func step(t *testing.T, r *rand.Rand, x api.Registry, day int, found map[string]int) api.Registry {
	t.Helper()
	id := len(x.Proposals) + 1 - r.Intn(4)
	var y api.Registry
	var e api.Errno
	name := pick(r, "propose", "propose", "approve", "approve", "approve", "approve", "approve", "withdraw", "destroy", "destroy")
	switch name {
	case "propose":
		var files []int
		for _, f := range x.Files {
			if r.Intn(4) == 0 {
				files = append(files, f.ID)
			}
		}
		y, e = Propose(x, api.Proposal{ID: len(x.Proposals) + 1, Day: day, Clerk: 1 + r.Intn(5), Files: files, Withdrawn: api.Forever})
	case "approve":
		y, e = Approve(x, api.Approval{Proposal: id, Day: day, Clerk: pick(r, 1, 2, 3, 4, 5, 8)})
	case "withdraw":
		y, e = Withdraw(x, id, day+r.Intn(3))
	case "destroy":
		y, _, e = Destroy(x, id, day)
		if want := readyModel(t, x, id, day); want != api.OK && e != want || want == api.OK && e != api.OK && e != api.ErrTwice && e != api.ErrOrder {
			t.Fatal(x, id, day, want, e)
		}
		if e == api.OK {
			sound(t, x, y)
		}
	}
	found[name+" "+strconv.Itoa(int(e))]++
	if e != api.OK {
		return x
	}
	return y
}

// P14.2, P14.3, P14.4: all ways lead from registries without a fault to such
// registries; Ready says what its definition says on all days, and what is
// destroyed was to be destroyed.
func TestWays(t *testing.T) {
	r := rand.New(rand.NewSource(140))
	found := map[string]int{}
	ready := map[api.Errno]int{}
	for range 400 {
		x := base()
		x.Departures = []api.Departure{{File: pick(r, 3, 5), Day: pick(r, 15, 30, 90)}}
		if r.Intn(3) == 0 {
			x.Selections = nil
		}
		x.Files[4].Closed = pick(r, 11, 15, api.Forever)
		for day := 9; day < 35; day += r.Intn(2) {
			x = step(t, r, x, day, found)
			if e := Check(x); e != api.OK {
				t.Fatal(x, e)
			}
			if i, e := Chain(x.Certificates); i != -1 || e != api.OK {
				t.Fatal(x, i, e)
			}
		}
		for id := range len(x.Proposals) + 2 {
			for _, day := range []int{r.Intn(20), 20 + r.Intn(20), 89, 90, api.MaxDay} {
				e := Ready(x, id, day)
				if e != readyModel(t, x, id, day) {
					t.Fatal(x, id, day, e)
				}
				ready[e]++
			}
		}
	}
	for _, name := range []string{"propose 0", "approve 0", "withdraw 0", "destroy 0", "propose 6", "approve 6", "approve 22", "withdraw 11", "destroy 22", "destroy 21", "destroy 11", "destroy 6"} {
		if found[name] < 10 {
			t.Error(name, found)
		}
	}
	if len(ready) != 6 || ready[api.OK] < 10 || ready[api.ErrHeld] < 10 {
		t.Error(ready)
	}
}
