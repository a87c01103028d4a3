package dating

import (
	"fmt"
	"math"
	"math/rand"
	"regexp"
	"slices"
	"testing"

	"archivum/api"
	"archivum/day"
)

// invalid are datings that are not valid.
var invalid = []api.Dating{
	{First: -1, Last: 0}, {First: -1, Last: -1}, {First: -5, Last: api.MaxDay},
	{First: 1, Last: 0}, {First: api.MaxDay, Last: api.MaxDay - 1},
	{First: 0, Last: api.MaxDay + 1}, {First: api.MaxDay + 1, Last: api.MaxDay + 1},
	{First: math.MinInt, Last: math.MaxInt}, {First: math.MaxInt, Last: math.MinInt},
	{First: 0, Last: math.MaxInt}, {First: math.MinInt, Last: 0},
}

func at(t *testing.T, text string) int {
	t.Helper()
	d, e := day.Parse(text)
	if e != api.OK {
		t.Fatal(text, e)
	}
	return d
}

func of(t *testing.T, first, last string) api.Dating {
	t.Helper()
	return api.Dating{First: at(t, first), Last: at(t, last)}
}

// within returns all datings of the days from first to last.
func within(first, last int) []api.Dating {
	var out []api.Dating
	for a := first; a <= last; a++ {
		for b := a; b <= last; b++ {
			out = append(out, api.Dating{First: a, Last: b})
		}
	}
	return out
}

// choices returns the relation that holds for the choices of days from two
// datings for which a test is true.
func choices(a, b api.Dating, test func(d, e int) bool) int {
	some, all := false, true
	for d := a.First; d <= a.Last; d++ {
		for e := b.First; e <= b.Last; e++ {
			if test(d, e) {
				some = true
			} else {
				all = false
			}
		}
	}
	switch {
	case all:
		return api.Certain
	case some:
		return api.Possible
	}
	return api.Impossible
}

// P3.1: which datings are valid, and no function takes others.
func TestCheck(t *testing.T) {
	good := api.Dating{First: 3, Last: 5}
	for _, x := range []api.Dating{{}, good, {First: 5, Last: 5}, {First: 0, Last: api.MaxDay}, {First: api.MaxDay, Last: api.MaxDay}} {
		if e := Check(x); e != api.OK {
			t.Error(x, e)
		}
	}
	for _, x := range invalid {
		if e := Check(x); e != api.ErrArg {
			t.Error("Check", x, e)
		}
		for _, pair := range [][2]api.Dating{{x, good}, {good, x}, {x, x}} {
			if r, e := Before(pair[0], pair[1]); r != 0 || e != api.ErrArg {
				t.Error("Before", pair, r, e)
			}
			if r, e := Same(pair[0], pair[1]); r != 0 || e != api.ErrArg {
				t.Error("Same", pair, r, e)
			}
			if m, ok := Meet(pair[0], pair[1]); ok || m != (api.Dating{}) {
				t.Error("Meet", pair, m, ok)
			}
			if h, e := Hull(pair[:]); h != (api.Dating{}) || e != api.ErrArg {
				t.Error("Hull", pair, h, e)
			}
		}
		if y, e := Years(x, 1); y != (api.Dating{}) || e != api.ErrArg {
			t.Error("Years", x, y, e)
		}
		if s, e := Format(x); s != "" || e != api.ErrArg {
			t.Error("Format", x, s, e)
		}
	}
}

// P3.1 and P3.4: a relation is what holds for the choices of days.
func TestRelations(t *testing.T) {
	all := append(within(0, 5), within(api.MaxDay-2, api.MaxDay)...)
	for _, a := range all {
		for _, b := range all {
			r, e := Before(a, b)
			if want := choices(a, b, func(d, e int) bool { return d < e }); r != want || e != api.OK {
				t.Error("Before", a, b, r, e)
			}
			r, e = Same(a, b)
			if want := choices(a, b, func(d, e int) bool { return d == e }); r != want || e != api.OK {
				t.Error("Same", a, b, r, e)
			}
		}
	}
	unknown := api.Dating{First: 0, Last: api.MaxDay}
	for i, x := range []struct {
		a, b         api.Dating
		before, same int
	}{
		{unknown, unknown, api.Possible, api.Possible},
		{unknown, api.Dating{}, api.Impossible, api.Possible},
		{api.Dating{}, unknown, api.Possible, api.Possible},
		{api.Dating{First: 3, Last: 4}, api.Dating{First: 3, Last: 4}, api.Possible, api.Possible},
		{of(t, "1923-01-01", "1923-12-31"), of(t, "1924-01-01", "1924-12-31"), api.Certain, api.Impossible},
		{of(t, "1923-01-01", "1923-12-31"), of(t, "1923-06-01", "1923-06-30"), api.Possible, api.Possible},
		{of(t, "1923-01-01", "1923-12-31"), of(t, "1923-01-01", "1923-01-01"), api.Impossible, api.Possible},
	} {
		before, e := Before(x.a, x.b)
		same, f := Same(x.a, x.b)
		if before != x.before || same != x.same || e != api.OK || f != api.OK {
			t.Error(i, before, same, e, f)
		}
	}
}

// P3.4: what is certain or impossible of a dating is so of all it contains.
func TestContained(t *testing.T) {
	all := within(0, 4)
	relations := []func(a, b api.Dating) (int, api.Errno){
		Before,
		func(a, b api.Dating) (int, api.Errno) { return Before(b, a) },
		Same,
	}
	for i, relation := range relations {
		for _, a := range all {
			for _, b := range all {
				r, _ := relation(a, b)
				if r == api.Possible {
					continue
				}
				for _, c := range within(a.First, a.Last) {
					if s, e := relation(c, b); s != r || e != api.OK {
						t.Error(i, a, b, c, r, s, e)
					}
				}
			}
		}
	}
}

// P3.2: so many years later, and which error comes first.
func TestYears(t *testing.T) {
	for i, x := range []struct {
		from [2]string
		n    int
		want [2]string
	}{
		{[2]string{"1923-01-01", "1923-12-31"}, 0, [2]string{"1923-01-01", "1923-12-31"}},
		{[2]string{"1923-01-01", "1923-12-31"}, 10, [2]string{"1933-01-01", "1933-12-31"}},
		{[2]string{"1924-02-28", "1924-02-29"}, 1, [2]string{"1925-02-28", "1925-02-28"}},
		{[2]string{"1924-02-29", "1924-03-01"}, 4, [2]string{"1928-02-29", "1928-03-01"}},
		{[2]string{"1600-01-01", "1700-02-28"}, 200, [2]string{"1800-01-01", "1900-02-28"}},
		{[2]string{"1600-01-01", "4470-11-25"}, 200, [2]string{"1800-01-01", "4470-11-25"}},
		{[2]string{"4469-12-31", "4470-01-05"}, 1, [2]string{"4470-11-25", "4470-11-25"}},
	} {
		if y, e := Years(of(t, x.from[0], x.from[1]), x.n); e != api.OK || y != of(t, x.want[0], x.want[1]) {
			t.Error(i, y, e)
		}
	}
	for _, n := range []int{-1, 201, math.MinInt, math.MaxInt} {
		if y, e := Years(api.Dating{First: 3, Last: 5}, n); y != (api.Dating{}) || e != api.ErrRange {
			t.Error(n, y, e)
		}
		if y, e := Years(api.Dating{First: 5, Last: 3}, n); y != (api.Dating{}) || e != api.ErrArg {
			t.Error(n, y, e)
		}
	}
}

// P3.4: the years of a day in a dating are in the dating of the years.
func TestYearsInside(t *testing.T) {
	for _, start := range []int{0, at(t, "1899-12-30"), at(t, "1996-02-25"), at(t, "4467-02-26"), api.MaxDay - 400, api.MaxDay - 9} {
		for _, n := range []int{0, 1, 3, 4, 100, 200} {
			for _, x := range within(start, start+9) {
				y, e := Years(x, n)
				if e != api.OK || Check(y) != api.OK {
					t.Fatal(x, n, y, e)
				}
				for d := x.First; d <= x.Last; d++ {
					if later, _ := day.Years(d, n); later < y.First || later > y.Last {
						t.Error(x, n, d, later, y)
					}
				}
			}
		}
	}
}

// P3.2: common days.
func TestMeet(t *testing.T) {
	has := func(x api.Dating, d int) bool { return x.First <= d && d <= x.Last }
	for _, a := range within(0, 6) {
		for _, b := range within(0, 6) {
			m, ok := Meet(a, b)
			any := false
			for d := range 7 {
				both := has(a, d) && has(b, d)
				any = any || both
				if ok && both != has(m, d) {
					t.Error(a, b, m, d)
				}
			}
			if ok != any || !ok && m != (api.Dating{}) {
				t.Error(a, b, m, ok)
			}
		}
	}
	unknown := api.Dating{First: 0, Last: api.MaxDay}
	if m, ok := Meet(unknown, unknown); !ok || m != unknown {
		t.Error(m, ok)
	}
}

// P3.2: the least dating that contains all of a list, and the errors in order.
func TestHull(t *testing.T) {
	random := rand.New(rand.NewSource(3))
	for range 200 {
		l := make([]api.Dating, 1+random.Intn(5))
		want := api.Dating{First: api.MaxDay, Last: 0}
		for i := range l {
			a, b := random.Intn(api.MaxDay+1), random.Intn(api.MaxDay+1)
			l[i] = api.Dating{First: min(a, b), Last: max(a, b)}
			want = api.Dating{First: min(want.First, a, b), Last: max(want.Last, a, b)}
		}
		was := slices.Clone(l)
		if h, e := Hull(l); e != api.OK || h != want || !slices.Equal(l, was) {
			t.Error(l, h, e)
		}
	}
	full := make([]api.Dating, api.MaxList)
	full[api.MaxList-1] = api.Dating{First: 7, Last: 9}
	if h, e := Hull(full); e != api.OK || h != (api.Dating{First: 0, Last: 9}) {
		t.Error(h, e)
	}
	wrong := make([]api.Dating, api.MaxList+1)
	wrong[0] = api.Dating{First: 2, Last: 1}
	for i, x := range []struct {
		l []api.Dating
		e api.Errno
	}{
		{nil, api.ErrEmpty}, {[]api.Dating{}, api.ErrEmpty},
		{make([]api.Dating, api.MaxList+1), api.ErrTooLarge}, {wrong, api.ErrTooLarge},
		{wrong[:1], api.ErrArg}, {[]api.Dating{{}, {First: 0, Last: api.MaxDay + 1}}, api.ErrArg},
		{[]api.Dating{{First: -1, Last: 3}, {}}, api.ErrArg},
	} {
		if h, e := Hull(x.l); h != (api.Dating{}) || e != x.e {
			t.Error(i, h, e)
		}
	}
}

// P3.3: texts, and datings that they are.
func TestTexts(t *testing.T) {
	for i, x := range []struct{ text, first, last, again string }{
		{"unknown", "1600-01-01", "4470-11-25", "unknown"},
		{"1600/4470-11-25", "1600-01-01", "4470-11-25", "unknown"},
		{"1923", "1923-01-01", "1923-12-31", "1923"},
		{"1924-02", "1924-02-01", "1924-02-29", "1924-02"},
		{"1923-01-01", "1923-01-01", "1923-01-01", "1923-01-01"},
		{"1923-01/1923-12", "1923-01-01", "1923-12-31", "1923"},
		{"1923/1923", "1923-01-01", "1923-12-31", "1923"},
		{"1923-01-01/1923-01-01", "1923-01-01", "1923-01-01", "1923-01-01"},
		// Only the day from which a dating begins counts, and up to which it goes.
		{"1923/1923-02-05", "1923-01-01", "1923-02-05", "1923/1923-02-05"},
		{"1923-02-05/1923", "1923-02-05", "1923-12-31", "1923-02-05/1923"},
		{"1923-01/1923-03", "1923-01-01", "1923-03-31", "1923/1923-03"},
		{"1923-10/1923-12", "1923-10-01", "1923-12-31", "1923-10/1923"},
		{"1923-04/1923-04-29", "1923-04-01", "1923-04-29", "1923-04/1923-04-29"},
		{"1923/1923-01-01", "1923-01-01", "1923-01-01", "1923-01-01"},
		// Whole periods go ahead of before and after.
		{"before 1601", "1600-01-01", "1600-12-31", "1600"},
		{"before 1600-02", "1600-01-01", "1600-01-31", "1600-01"},
		{"before 1600-01-02", "1600-01-01", "1600-01-01", "1600-01-01"},
		{"before 1600-03", "1600-01-01", "1600-02-29", "before 1600-03"},
		{"before 1600-01-03", "1600-01-01", "1600-01-02", "before 1600-01-03"},
		{"before 1924-01-01", "1600-01-01", "1923-12-31", "before 1924"},
		{"1600/1923-06", "1600-01-01", "1923-06-30", "before 1923-07"},
		{"before 4470", "1600-01-01", "4469-12-31", "before 4470"},
		{"before 4470-11", "1600-01-01", "4470-10-31", "before 4470-11"},
		{"before 4470-11-25", "1600-01-01", "4470-11-24", "before 4470-11-25"},
		{"after 1600", "1601-01-01", "4470-11-25", "after 1600"},
		{"after 1600-01-01", "1600-01-02", "4470-11-25", "after 1600-01-01"},
		{"after 1923-12-31", "1924-01-01", "4470-11-25", "after 1923"},
		{"after 1923-06-30", "1923-07-01", "4470-11-25", "after 1923-06"},
		{"1923-07/4470", "1923-07-01", "4470-11-25", "after 1923-06"},
		// The last year and its last month are cut off by the last day.
		{"after 4469", "4470-01-01", "4470-11-25", "4470"},
		{"after 4470-10", "4470-11-01", "4470-11-25", "4470-11"},
		{"after 4470-11-24", "4470-11-25", "4470-11-25", "4470-11-25"},
		{"after 4470-11-23", "4470-11-24", "4470-11-25", "after 4470-11-23"},
		{"4470-02/4470-11", "4470-02-01", "4470-11-25", "after 4470-01"},
	} {
		want := of(t, x.first, x.last)
		if d, e := Parse(x.text); e != api.OK || d != want {
			t.Error(i, d, e)
		}
		if s, e := Format(want); e != api.OK || s != x.again {
			t.Error(i, s, e)
		}
	}
}

// P3.3: which error a text has: form goes ahead of range.
func TestParseErrors(t *testing.T) {
	for i, x := range []struct {
		text string
		e    api.Errno
	}{
		{"", api.ErrSyntax}, {"Unknown", api.ErrSyntax}, {" unknown", api.ErrSyntax}, {"unknown/1923", api.ErrSyntax}, {"before unknown", api.ErrSyntax},
		{"192", api.ErrSyntax}, {"19230", api.ErrSyntax}, {"1923-", api.ErrSyntax}, {"1923-4", api.ErrSyntax}, {"1923-04-", api.ErrSyntax}, {"1923-04-1", api.ErrSyntax},
		{"1923-04-011", api.ErrSyntax}, {"1923.04", api.ErrSyntax}, {"1923-0a", api.ErrSyntax}, {"+923", api.ErrSyntax}, {"-923", api.ErrSyntax}, {"19 3", api.ErrSyntax},
		{"19-3", api.ErrSyntax}, {"1923-+4", api.ErrSyntax}, {"192\xb3", api.ErrSyntax}, {"1923\x00", api.ErrSyntax},
		{"before", api.ErrSyntax}, {"before ", api.ErrSyntax}, {"before  1923", api.ErrSyntax}, {"before1923", api.ErrSyntax}, {"Before 1923", api.ErrSyntax}, {"before 1923 ", api.ErrSyntax},
		{"after", api.ErrSyntax}, {"after ", api.ErrSyntax}, {"after 192", api.ErrSyntax}, {"after before 1923", api.ErrSyntax}, {"before 1923/1924", api.ErrSyntax}, {"1923/after 1924", api.ErrSyntax},
		{"/", api.ErrSyntax}, {"1923/", api.ErrSyntax}, {"/1923", api.ErrSyntax}, {"1923//1924", api.ErrSyntax}, {"1923/1924/1925", api.ErrSyntax}, {"1923 / 1924", api.ErrSyntax}, {"1923-1924", api.ErrSyntax},
		{"1923-02-30/x", api.ErrSyntax}, {"x/1923-02-30", api.ErrSyntax}, {"9999/1923-0x", api.ErrSyntax}, {"1924/192", api.ErrSyntax},
		{"0000", api.ErrRange}, {"1599", api.ErrRange}, {"4471", api.ErrRange}, {"9999", api.ErrRange},
		{"1923-00", api.ErrRange}, {"1923-13", api.ErrRange}, {"1599-12", api.ErrRange}, {"4470-12", api.ErrRange}, {"4471-01", api.ErrRange},
		{"1923-00-01", api.ErrRange}, {"1923-01-00", api.ErrRange}, {"1923-02-29", api.ErrRange}, {"1900-02-29", api.ErrRange}, {"4470-11-26", api.ErrRange}, {"1599-12-31", api.ErrRange},
		{"before 1599", api.ErrRange}, {"before 4471", api.ErrRange}, {"after 1923-13", api.ErrRange}, {"after 4471", api.ErrRange}, {"after 1599", api.ErrRange},
		{"before 1600", api.ErrRange}, {"before 1600-01", api.ErrRange}, {"before 1600-01-01", api.ErrRange},
		{"after 4470", api.ErrRange}, {"after 4470-11", api.ErrRange}, {"after 4470-11-25", api.ErrRange},
		{"1924/1923", api.ErrRange}, {"1923-05/1923-04", api.ErrRange}, {"1923-04-02/1923-04-01", api.ErrRange}, {"1924/1923-12-31", api.ErrRange},
		{"1923-02-30/1924", api.ErrRange}, {"1923/1924-02-30", api.ErrRange}, {"1599/4471", api.ErrRange}, {"1923/4471", api.ErrRange}, {"1599/1923", api.ErrRange},
	} {
		if d, e := Parse(x.text); d != (api.Dating{}) || e != x.e {
			t.Error(i, x.text, d, e)
		}
	}
}

// P3.3: a text has a form exactly if this pattern says so.
func TestForms(t *testing.T) {
	p := `[0-9]{4}(-[0-9]{2}(-[0-9]{2})?)?`
	form := regexp.MustCompile(`\A(unknown|` + p + `|before ` + p + `|after ` + p + `|` + p + `/` + p + `)\z`)
	check := func(text string) {
		d, e := Parse(text)
		if form.MatchString(text) == (e == api.ErrSyntax) || e != api.OK && d != (api.Dating{}) || e == api.OK && Check(d) != api.OK {
			t.Errorf("%q %v %v", text, d, e)
		}
	}
	for _, text := range []string{"unknown", "1923", "1923-04", "1923-04-05", "before 1923", "before 1923-04-05", "after 1923-04", "1923/1924-05", "1923-04-05/1924-02-11"} {
		for i := range len(text) {
			check(text[:i] + text[i+1:])
			for _, c := range "0912-/ abn:\x00\u0661" {
				check(text[:i] + string(c) + text[i:])
				check(text[:i] + string(c) + text[i+1:])
			}
		}
	}
}

// names has the texts of all periods of some years, and the longest ones of
// those that begin or end on a day.
type names struct {
	just        map[api.Dating]string
	begin, end  map[int]string
	interesting []int
}

// namesOf makes names, with what a longer period is written over a shorter one.
func namesOf(t *testing.T, years ...int) names {
	n := names{map[api.Dating]string{}, map[int]string{}, map[int]string{}, nil}
	add := func(first, last int, text string) {
		n.just[api.Dating{First: first, Last: last}] = text
		n.begin[first] = text
		n.end[last] = text
	}
	last := func(year, month int) int {
		d, e := day.Of(year, month, day.Length(year, month))
		if e != api.OK {
			return api.MaxDay
		}
		return d
	}
	for _, year := range years {
		start, _ := day.Of(year, 1, 1)
		for d := start; d <= last(year, 12); d++ {
			text, _ := day.Format(d)
			add(d, d, text)
		}
		for month := 1; month <= 12; month++ {
			if d, e := day.Of(year, month, 1); e == api.OK {
				add(d, last(year, month), fmt.Sprintf("%d-%02d", year, month))
				n.interesting = append(n.interesting, d, d+1, d+14, last(year, month)-1, last(year, month))
			}
		}
		add(start, last(year, 12), fmt.Sprint(year))
	}
	slices.Sort(n.interesting)
	n.interesting = slices.Compact(n.interesting)
	return n
}

// text is the definition of the text of a dating.
func (n names) text(x api.Dating) string {
	switch just := n.just[x]; {
	case x == api.Dating{First: 0, Last: api.MaxDay}:
		return "unknown"
	case just != "":
		return just
	case x.First == 0:
		return "before " + n.begin[x.Last+1]
	case x.Last == api.MaxDay:
		return "after " + n.end[x.First-1]
	}
	return n.begin[x.First] + "/" + n.end[x.Last]
}

// P3.3 and P3.4: the text of each dating is the defined one, and is read again.
func TestEveryText(t *testing.T) {
	n := namesOf(t, 1600, 1601, 1899, 1900, 1904, 1905, 4468, 4469, 4470)
	// The days of the next year that before names are not among these years.
	skip := func(x api.Dating) bool { return x.First == 0 && n.begin[x.Last+1] == "" && x.Last != api.MaxDay }
	skipped := 0
	for i, first := range n.interesting {
		for _, last := range n.interesting[i:] {
			x := api.Dating{First: first, Last: last}
			s, e := Format(x)
			if e != api.OK {
				t.Fatal(x, e)
			}
			if skip(x) || x.Last == api.MaxDay && first > 0 && n.end[first-1] == "" && n.just[x] == "" {
				skipped++
			} else if want := n.text(x); s != want {
				t.Fatal(x, s, want)
			}
			if d, e := Parse(s); e != api.OK || d != x {
				t.Fatal(x, s, d, e)
			}
		}
	}
	// At most one at each border of the years.
	if skipped > 6 {
		t.Error(skipped)
	}
	for d := range api.MaxDay {
		for _, x := range []api.Dating{{First: 0, Last: d}, {First: d + 1, Last: api.MaxDay}} {
			s, e := Format(x)
			if y, f := Parse(s); e != api.OK || f != api.OK || y != x {
				t.Fatal(x, s, y, e, f)
			}
		}
	}
}
