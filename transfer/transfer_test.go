package transfer

import (
	"fmt"
	"math/rand"
	"regexp"
	"slices"
	"strconv"
	"strings"
	"testing"

	"archivum/api"
)

func pick[T any](r *rand.Rand, l ...T) T { return l[r.Intn(len(l))] }

func digestOf(b byte) string { return strings.Repeat(string([]byte{b}), 32) }

// base is a right list.
func base() api.TransferList {
	return api.TransferList{ID: 3, Office: 8, Day: 100, Items: []api.Listed{
		{Number: 1, File: 70, Title: "Letters", Dating: api.Dating{First: 5, Last: 9}, Pages: 30, Digest: digestOf(1)},
		{Number: 4, File: 71, Title: "Maps of 1923", Dating: api.Dating{First: 2, Last: 6}, Pages: 20, Digest: digestOf(0xaf)},
		{Number: 5, File: 7, Title: "x", Dating: api.Dating{First: 7, Last: 7}, Pages: 5, Digest: digestOf(0xf0)},
	}}
}

// random returns a right list of few different items.
func random(r *rand.Rand) api.TransferList {
	l := api.TransferList{ID: 1 + r.Intn(api.MaxID), Office: 1 + r.Intn(9), Day: r.Intn(api.MaxDay + 1)}
	files := r.Perm(9)
	for n := 1; n < 9; n++ {
		if r.Intn(2) == 0 && (n < 8 || len(l.Items) > 0) {
			continue
		}
		first := r.Intn(api.MaxDay + 1)
		x := api.Listed{Number: pick(r, n, n, n*1000), File: files[n] + 1, Title: pick(r, "Letters", "A to K", "~", strings.Repeat("x", 64)), Pages: pick(r, 1, 2, 3, 5, 100000), Digest: digestOf(byte(r.Intn(256)))}
		x.Dating = api.Dating{First: first, Last: first + r.Intn(api.MaxDay+1-first)}
		if k := len(l.Items); k == 0 || l.Items[k-1].Number < x.Number {
			l.Items = append(l.Items, x)
		}
	}
	return l
}

func clone(l api.TransferList) api.TransferList {
	l.Items = slices.Clone(l.Items)
	return l
}

func same(a, b api.TransferList) bool {
	return a.ID == b.ID && a.Office == b.Office && a.Day == b.Day && slices.Equal(a.Items, b.Items)
}

func isZero(l api.TransferList) bool { return same(l, api.TransferList{}) }

// many returns a right list with so many items.
func many(n int) api.TransferList {
	l := api.TransferList{ID: 1, Office: 1}
	for i := range n {
		l.Items = append(l.Items, api.Listed{Number: 9999 - n + i + 1, File: api.MaxID - i, Title: strings.Repeat("x", 64), Dating: api.Dating{First: api.MaxDay, Last: api.MaxDay}, Pages: 100000, Digest: digestOf(255)})
	}
	return l
}

// change is a change of the base list that makes a fault, at an index. Two changes
// of one field cannot be made together.
type change struct {
	at    int
	e     api.Errno
	field string
	apply func(l *api.TransferList)
}

// faults are changes in the order in which their errors count.
func faults() []change {
	l := []change{
		{-1, api.ErrRange, "id", func(l *api.TransferList) { l.ID = 0 }},
		{-1, api.ErrRange, "id", func(l *api.TransferList) { l.ID = api.MaxID + 1 }},
		{-1, api.ErrRange, "office", func(l *api.TransferList) { l.Office = 0 }},
		{-1, api.ErrRange, "office", func(l *api.TransferList) { l.Office = api.MaxID + 1 }},
		{-1, api.ErrRange, "day", func(l *api.TransferList) { l.Day = -1 }},
		{-1, api.ErrRange, "day", func(l *api.TransferList) { l.Day = api.MaxDay + 1 }},
		{-1, api.ErrEmpty, "items", func(l *api.TransferList) { l.Items = nil }},
		{-1, api.ErrTooLarge, "items", func(l *api.TransferList) { l.Items = append(l.Items, make([]api.Listed, api.MaxItems-2)...) }},
	}
	for i := range 3 {
		l = append(l, itemFaults(i)...)
	}
	return l
}

func itemFaults(i int) []change {
	at := strconv.Itoa(i)
	var l []change
	add := func(e api.Errno, field string, set func(x *api.Listed)) {
		l = append(l, change{i, e, field + at, func(l *api.TransferList) {
			if i < len(l.Items) {
				set(&l.Items[i])
			}
		}})
	}
	for _, n := range []int{0, -1, 10000} {
		add(api.ErrRange, "number", func(x *api.Listed) { x.Number = n })
	}
	for _, n := range []int{0, -1, api.MaxID + 1} {
		add(api.ErrRange, "file", func(x *api.Listed) { x.File = n })
	}
	for _, n := range []int{0, -1, 100001} {
		add(api.ErrRange, "pages", func(x *api.Listed) { x.Pages = n })
	}
	for _, d := range []api.Dating{{First: -1, Last: 5}, {First: 5, Last: 4}, {First: 5, Last: api.MaxDay + 1}, {First: api.MaxDay + 1, Last: api.MaxDay + 1}, {First: -2, Last: -1}} {
		add(api.ErrRange, "dating", func(x *api.Listed) { x.Dating = d })
	}
	for _, s := range []string{"", " ", " x", "x ", "two  blanks", "x\x1f", "x\x7f", "x\x80", "\xff", "x\n", "caf\u00e9", strings.Repeat("x", 65)} {
		add(api.ErrName, "title", func(x *api.Listed) { x.Title = s })
	}
	for _, n := range []int{0, 31, 33, 64} {
		add(api.ErrArg, "digest", func(x *api.Listed) { x.Digest = strings.Repeat("a", n) })
	}
	if i > 0 {
		add(api.ErrOrder, "number", func(x *api.Listed) { x.Number = 1 })
		add(api.ErrTwice, "file", func(x *api.Listed) { x.File = 70 })
	}
	return l
}

// refused checks that no function takes a list that is not right.
func refused(t *testing.T, l api.TransferList) {
	t.Helper()
	if n, d, e := Total(l); n != 0 || d != (api.Dating{}) || e != api.ErrArg {
		t.Error("total", n, d, e)
	}
	for _, other := range []api.TransferList{base(), l} {
		if d, e := Differ(l, other); len(d) != 0 || e != api.ErrArg {
			t.Error("differ", d, e)
		}
		if d, e := Differ(other, l); len(d) != 0 || e != api.ErrArg {
			t.Error("differ", d, e)
		}
	}
	for _, pages := range []int{-1, 0, 10, 100000, 100001} {
		if p, e := Divide(l, pages); len(p) != 0 || e != api.ErrArg {
			t.Error("divide", p, e)
		}
	}
	if s, e := Print(l); s != "" || e != api.ErrArg {
		t.Error("print", s, e)
	}
}

// P16.1: right lists, up to the limits.
func TestCheckRight(t *testing.T) {
	ends := base()
	ends.ID, ends.Office, ends.Day = api.MaxID, api.MaxID, api.MaxDay
	low := base()
	low.ID, low.Office, low.Day = 1, 1, 0
	low.Items = []api.Listed{{Number: 1, File: 1, Title: "!", Dating: api.Dating{}, Pages: 1, Digest: digestOf(0)}, {Number: 2, File: 2, Title: "a b c", Dating: api.Dating{Last: api.MaxDay}, Pages: 1, Digest: digestOf(0)}}
	for i, l := range []api.TransferList{base(), ends, low, many(1), many(128)} {
		was := clone(l)
		if at, e := Check(l); at != -1 || e != api.OK || !same(l, was) {
			t.Error(i, at, e)
		}
	}
	r := rand.New(rand.NewSource(1))
	for range 500 {
		if at, e := Check(random(r)); at != -1 || e != api.OK {
			t.Fatal(at, e)
		}
	}
}

// P16.1: the first fault, alone and in pairs, and that no function takes it.
func TestCheckFaults(t *testing.T) {
	all := faults()
	for i, a := range all {
		l := base()
		a.apply(&l)
		was := clone(l)
		if at, e := Check(l); at != a.at || e != a.e || !same(l, was) {
			t.Error(i, at, e)
		}
		refused(t, l)
		for k, b := range all[i+1:] {
			if a.field == b.field {
				continue
			}
			l := base()
			b.apply(&l)
			a.apply(&l)
			if at, e := Check(l); at != a.at || e != a.e {
				t.Error(i, i+1+k, at, e)
			}
		}
	}
}

// P16.1: numbers increase from one item to the next one, and a file is listed
// once, wherever it was listed before.
func TestCheckOrder(t *testing.T) {
	for _, c := range []struct {
		numbers, files [3]int
		at             int
		e              api.Errno
	}{
		{[3]int{1, 2, 3}, [3]int{9, 8, 7}, -1, api.OK},
		{[3]int{7, 8, 9999}, [3]int{1, 2, 3}, -1, api.OK},
		{[3]int{2, 2, 3}, [3]int{1, 2, 3}, 1, api.ErrOrder},
		{[3]int{2, 1, 3}, [3]int{1, 2, 3}, 1, api.ErrOrder},
		{[3]int{1, 3, 2}, [3]int{1, 2, 3}, 2, api.ErrOrder},
		{[3]int{1, 3, 3}, [3]int{1, 2, 1}, 2, api.ErrOrder},
		{[3]int{1, 2, 3}, [3]int{1, 2, 1}, 2, api.ErrTwice},
		{[3]int{1, 2, 3}, [3]int{1, 1, 1}, 1, api.ErrTwice},
		{[3]int{1, 2, 2}, [3]int{1, 1, 3}, 1, api.ErrTwice},
	} {
		l := base()
		for i := range 3 {
			l.Items[i].Number, l.Items[i].File = c.numbers[i], c.files[i]
		}
		if at, e := Check(l); at != c.at || e != c.e {
			t.Error(c, at, e)
		}
	}
}

// P16.1: the first item with a number, of any list.
func TestFind(t *testing.T) {
	l := api.TransferList{Items: []api.Listed{{Number: 5, File: 1}, {Number: 0, File: 2}, {Number: -3, Title: "\n"}, {Number: 5, File: 4}, {Number: 0, File: 3}}}
	was := clone(l)
	for n, want := range map[int]int{5: 0, 0: 1, -3: 2} {
		if x, ok := Find(l, n); !ok || x != l.Items[want] {
			t.Error(n, x, ok)
		}
	}
	for _, n := range []int{1, 4, 6, -5} {
		if x, ok := Find(l, n); ok || x != (api.Listed{}) {
			t.Error(n, x, ok)
		}
	}
	if x, ok := Find(api.TransferList{ID: 5}, 5); ok || x != (api.Listed{}) {
		t.Error(x, ok)
	}
	if !same(l, was) {
		t.Error("the list was changed")
	}
}

// P16.2: the sum of the pages, and the dating of all.
func TestTotal(t *testing.T) {
	r := rand.New(rand.NewSource(2))
	for range 1000 {
		l := random(r)
		was := clone(l)
		pages, first, last := 0, []int{}, []int{}
		for _, x := range l.Items {
			pages += x.Pages
			first, last = append(first, x.Dating.First), append(last, x.Dating.Last)
		}
		n, d, e := Total(l)
		if n != pages || d.First != slices.Min(first) || d.Last != slices.Max(last) || e != api.OK || !same(l, was) {
			t.Error(n, d, e)
		}
	}
	if n, d, e := Total(many(128)); n != 12800000 || d != (api.Dating{First: api.MaxDay, Last: api.MaxDay}) || e != api.OK {
		t.Error(n, d, e)
	}
}

// differ are the numbers at which two lists differ, by the definition.
func differ(a, b api.TransferList) []int {
	var l []int
	at := func(l api.TransferList, n int) []api.Listed {
		var found []api.Listed
		for _, x := range l.Items {
			if x.Number == n {
				found = append(found, x)
			}
		}
		return found
	}
	for n := 1; n <= 9999; n++ {
		if !slices.Equal(at(a, n), at(b, n)) {
			l = append(l, n)
		}
	}
	return l
}

// P16.2, P16.5: where two lists differ; nowhere exactly if their items are equal.
func TestDiffer(t *testing.T) {
	r := rand.New(rand.NewSource(3))
	nowhere := 0
	for range 200 {
		a, b := random(r), random(r)
		switch r.Intn(3) {
		case 0:
			b.Items = slices.Clone(a.Items)
		case 1:
			b.Items = slices.Clone(a.Items)
			b.Items[r.Intn(len(b.Items))].Pages = pick(r, 2, 3)
		}
		wasA, wasB := clone(a), clone(b)
		l, e := Differ(a, b)
		if e != api.OK || !slices.Equal(l, differ(a, b)) || !same(a, wasA) || !same(b, wasB) {
			t.Error(l, e, differ(a, b))
		}
		back, _ := Differ(b, a)
		if !slices.Equal(l, back) || (len(l) == 0) != slices.Equal(a.Items, b.Items) {
			t.Error(l, back)
		}
		if len(l) == 0 {
			nowhere++
		}
	}
	if nowhere == 0 {
		t.Error("all lists differ")
	}
	if l, e := Differ(many(128), many(127)); e != api.OK || len(l) != 128 || l[0] != 9872 || l[127] != 9999 {
		t.Error(l, e)
	}
}

// P16.2: each field of an item counts, and those of the list do not.
func TestDifferFields(t *testing.T) {
	for i, c := range []struct {
		want  []int
		apply func(l *api.TransferList)
	}{
		{nil, func(l *api.TransferList) { l.ID, l.Office, l.Day = 9, 9, 9 }},
		{[]int{2, 4}, func(l *api.TransferList) { l.Items[1].Number = 2 }},
		{[]int{4}, func(l *api.TransferList) { l.Items[1].File++ }},
		{[]int{4}, func(l *api.TransferList) { l.Items[1].Title += "." }},
		{[]int{4}, func(l *api.TransferList) { l.Items[1].Dating.First-- }},
		{[]int{4}, func(l *api.TransferList) { l.Items[1].Dating.Last++ }},
		{[]int{4}, func(l *api.TransferList) { l.Items[1].Pages++ }},
		{[]int{4}, func(l *api.TransferList) { l.Items[1].Digest = digestOf(9) }},
		{[]int{1, 5}, func(l *api.TransferList) { l.Items = l.Items[1:2] }},
		{[]int{5, 77}, func(l *api.TransferList) { l.Items[2].Number = 77 }},
	} {
		l := base()
		c.apply(&l)
		if d, e := Differ(base(), l); e != api.OK || !slices.Equal(d, c.want) {
			t.Error(i, d, e)
		}
	}
}

// fewest is the least number of parts that follow one another.
func fewest(l api.TransferList, pages int) int {
	best := make([]int, len(l.Items)+1)
	for to := 1; to <= len(l.Items); to++ {
		best[to] = len(l.Items) + 1
		sum := 0
		for from := to - 1; from >= 0; from-- {
			if sum += l.Items[from].Pages; sum <= pages {
				best[to] = min(best[to], best[from]+1)
			}
		}
	}
	return best[len(l.Items)]
}

// P16.3, P16.5: each part is as long as it can be, and there are no fewer parts.
func TestDivide(t *testing.T) {
	r := rand.New(rand.NewSource(4))
	for range 2000 {
		l := random(r)
		for i := range l.Items {
			l.Items[i].Pages = 1 + r.Intn(9)
		}
		most := 0
		for _, x := range l.Items {
			most = max(most, x.Pages)
		}
		was := clone(l)
		pages := 1 + r.Intn(30)
		parts, e := Divide(l, pages)
		if !same(l, was) {
			t.Error("the list was changed")
		}
		if pages < most {
			if len(parts) != 0 || e != api.ErrLimit {
				t.Error(parts, e)
			}
			continue
		}
		at := 0
		for i, n := range parts {
			sum := 0
			for _, x := range l.Items[at : at+n] {
				sum += x.Pages
			}
			at += n
			if n < 1 || sum > pages || i < len(parts)-1 && sum+l.Items[at].Pages <= pages {
				t.Error(parts, pages)
			}
		}
		if e != api.OK || at != len(l.Items) || len(parts) != fewest(l, pages) {
			t.Error(parts, e)
		}
	}
}

// P16.3: the limits of pages, and the order of the errors.
func TestDivideErrors(t *testing.T) {
	l := base()
	for pages, want := range map[int]api.Errno{-1: api.ErrRange, 0: api.ErrRange, 100001: api.ErrRange, 1: api.ErrLimit, 29: api.ErrLimit, 30: api.OK, 100000: api.OK} {
		if p, e := Divide(l, pages); e != want || (len(p) > 0) != (want == api.OK) {
			t.Error(pages, p, e)
		}
	}
	if p, e := Divide(many(128), 100000); e != api.OK || len(p) != 128 || p[0] != 1 || p[127] != 1 {
		t.Error(p, e)
	}
	if p, e := Divide(many(1), 99999); len(p) != 0 || e != api.ErrLimit {
		t.Error(p, e)
	}
}

// text is the text of a list by the definition.
func text(l api.TransferList) string {
	s := fmt.Sprintf("list %d %d %d\n", l.ID, l.Office, l.Day)
	for _, x := range l.Items {
		s += fmt.Sprintf("item %d %d %d %d %d %x %s\n", x.Number, x.File, x.Dating.First, x.Dating.Last, x.Pages, x.Digest, x.Title)
	}
	return s
}

// P16.4, P16.5: the text of each right list, from which it is restored.
func TestPrint(t *testing.T) {
	r := rand.New(rand.NewSource(5))
	lists := []api.TransferList{base(), many(1), many(128)}
	for range 1000 {
		lists = append(lists, random(r))
	}
	for _, l := range lists {
		was := clone(l)
		s, e := Print(l)
		if e != api.OK || s != text(l) || !same(l, was) {
			t.Error(s, e)
		}
		back, line, e := Parse(s)
		if e != api.OK || line != 0 || !same(back, l) {
			t.Error(back, line, e)
		}
		back.Items[0].Number = -1
		if again, _, _ := Parse(s); !same(again, l) {
			t.Error("a result is kept")
		}
	}
	all := ""
	for b := range 256 {
		all += string([]byte{byte(b)})
	}
	for i := 0; i < 256; i += 32 {
		l := base()
		l.Items[0].Digest = all[i : i+32]
		s, _ := Print(l)
		if back, _, e := Parse(s); s != text(l) || e != api.OK || !same(back, l) {
			t.Error(s, e)
		}
	}
}

var (
	listForm = regexp.MustCompile(`^list (0|[1-9][0-9]{0,9}) (0|[1-9][0-9]{0,9}) (0|[1-9][0-9]{0,9})\n$`)
	itemForm = regexp.MustCompile(`^item (0|[1-9][0-9]{0,9}) (0|[1-9][0-9]{0,9}) (0|[1-9][0-9]{0,9}) (0|[1-9][0-9]{0,9}) (0|[1-9][0-9]{0,9}) ([0-9a-f]{64}) ((?s:.*))\n$`)
)

// parse is Parse by patterns.
func parse(s string) (api.TransferList, int, api.Errno) {
	number := func(s string) int {
		n, _ := strconv.Atoi(s)
		return n
	}
	var l api.TransferList
	lines := strings.SplitAfter(s, "\n")
	if k := len(lines); k > 1 && lines[k-1] == "" {
		lines = lines[:k-1]
	}
	for i, line := range lines {
		form := itemForm
		if i == 0 {
			form = listForm
		}
		w := form.FindStringSubmatch(line)
		if w == nil {
			return api.TransferList{}, i + 1, api.ErrSyntax
		}
		if i == 0 {
			l.ID, l.Office, l.Day = number(w[1]), number(w[2]), number(w[3])
			continue
		}
		var digest []byte
		for k := 0; k < 64; k += 2 {
			b, _ := strconv.ParseUint(w[6][k:k+2], 16, 8)
			digest = append(digest, byte(b))
		}
		l.Items = append(l.Items, api.Listed{Number: number(w[1]), File: number(w[2]), Title: w[7], Dating: api.Dating{First: number(w[3]), Last: number(w[4])}, Pages: number(w[5]), Digest: string(digest)})
	}
	if _, e := Check(l); e != api.OK {
		return api.TransferList{}, len(lines), api.ErrArg
	}
	return l, 0, api.OK
}

// P16.4, P16.5: texts that are changed at some places; what is read is printed as
// the same text.
func TestParseChanged(t *testing.T) {
	r := rand.New(rand.NewSource(6))
	errors := map[api.Errno]int{}
	for range 60000 {
		s, _ := Print(random(r))
		for range 1 + r.Intn(2) {
			i := r.Intn(len(s))
			piece := pick(r, " ", "\n", "0", "1", "9", "-", "+", "a", "F", "x", "list", "item", "\xc3", "\x00", "")
			s = s[:i] + piece + s[min(len(s), i+r.Intn(3)):]
			if s == "" {
				break
			}
		}
		want, wantLine, wantE := parse(s)
		l, line, e := Parse(s)
		if e != wantE || line != wantLine || !same(l, want) {
			t.Fatalf("%q: %d %d, not %d %d", s, line, e, wantLine, wantE)
		}
		errors[e]++
		if back, fault := Print(l); e == api.OK && (fault != api.OK || back != s) {
			t.Fatalf("%q is read, and printed as %q", s, back)
		}
	}
	for _, e := range []api.Errno{api.OK, api.ErrSyntax, api.ErrArg} {
		if errors[e] < 1000 {
			t.Error(e, errors[e])
		}
	}
}

// P16.4: what has the form of the text, and what has not.
func TestParseForm(t *testing.T) {
	h := strings.Repeat("0f", 32)
	good := text(base())
	for i, c := range []struct {
		text string
		line int
		e    api.Errno
	}{
		{"", 1, api.ErrSyntax},
		{"\n", 1, api.ErrSyntax},
		{"list 3 8 100", 1, api.ErrSyntax},
		{"list 3 8\n", 1, api.ErrSyntax},
		{"list 3 8 100 \n", 1, api.ErrSyntax},
		{"list 3 8 100 5\n", 1, api.ErrSyntax},
		{"list  3 8 100\n", 1, api.ErrSyntax},
		{" list 3 8 100\n", 1, api.ErrSyntax},
		{"List 3 8 100\n", 1, api.ErrSyntax},
		{"list 3 8 100\r\n", 1, api.ErrSyntax},
		{"list 3 8 -1\n", 1, api.ErrSyntax},
		{"list 3 8 +1\n", 1, api.ErrSyntax},
		{"list 3 8 00\n", 1, api.ErrSyntax},
		{"list 3 8 0x1\n", 1, api.ErrSyntax},
		{"list 3 8 1_0\n", 1, api.ErrSyntax},
		{"list 3 8 \n", 1, api.ErrSyntax},
		{"list 3 8 0\n", 1, api.ErrArg},
		{"list 9999999999 9999999999 9999999999\n", 1, api.ErrArg},
		{"list 3 8 10000000000\n", 1, api.ErrSyntax},
		{"list 10000000000 8 1\n", 1, api.ErrSyntax},
		{"item 3 8 100\n", 1, api.ErrSyntax},
		{good[:len(good)-1], 4, api.ErrSyntax},
		{good + "\n", 5, api.ErrSyntax},
		{good + "x", 5, api.ErrSyntax},
		{good + "list 3 8 100\n", 5, api.ErrSyntax},
		{good + "item 6 8 1 1 1 " + h + " \n", 5, api.ErrArg},
		{good + "item 6 8 1 1 1 " + h + "\n", 5, api.ErrSyntax},
		{good + "item 6 8 1 1 1 " + h + " x y\n", 0, api.OK},
		{good + "item 6 8 1 1 1 " + h + " x\xff\x00\r\n", 5, api.ErrArg},
		{good + "item 6 8 1 1 1 " + h + " x\ty\n", 5, api.ErrArg},
		{good + "item 6 8 1 1 1 " + h + " " + strings.Repeat("x", 65) + "\n", 5, api.ErrArg},
		{good + "item 6 8 1 1 1 " + strings.ToUpper(h) + " x\n", 5, api.ErrSyntax},
		{good + "item 6 8 1 1 1 " + h + "00 x\n", 5, api.ErrSyntax},
		{good + "item 6 8 1 1 1 " + h[2:] + " x\n", 5, api.ErrSyntax},
		{good + "item 6 8 1 1 1 " + h[1:] + "g x\n", 5, api.ErrSyntax},
		{good + "item 6 8 1 1 1 g" + h[1:] + " x\n", 5, api.ErrSyntax},
		{good + "item 6 8 1 1 " + h + " x\n", 5, api.ErrSyntax},
		{good + "item 6 8 1 1 1 1 " + h + " x\n", 5, api.ErrSyntax},
		{good + "item 6 8 1 1 01 " + h + " x\n", 5, api.ErrSyntax},
		{good + "item 6 8 1 1 9999999999 " + h + " x\n", 5, api.ErrArg},
		{good + "item 6 8 1 1 10000000000 " + h + " x\n", 5, api.ErrSyntax},
		{good + "item 6 8 1 0 1 " + h + " x\n", 5, api.ErrArg},
		{good + "item 0 8 1 1 1 " + h + " x\n", 5, api.ErrArg},
		{good + "item 5 8 1 1 1 " + h + " x\n", 5, api.ErrArg},
		{good + "item 6 7 1 1 1 " + h + " x\n", 5, api.ErrArg},
		// What does not have the form goes ahead of what is not right.
		{"list 0 8 100\nitem 5 8 1 1 1 " + h + " x\nitem\n", 3, api.ErrSyntax},
		{"list 0 8 100\nitem 5 8 1 1 1 " + h + " x\n\nitem\n", 3, api.ErrSyntax},
		{"x\nx\n", 1, api.ErrSyntax},
	} {
		l, line, e := Parse(c.text)
		if line != c.line || e != c.e || e != api.OK && !isZero(l) {
			t.Error(i, line, e)
		}
	}
}

// P16.4: texts of all lengths are read up to MaxData bytes.
func TestParseLong(t *testing.T) {
	head := "list 3 8 100\n"
	full := head + strings.Repeat("\n", api.MaxData-len(head))
	if l, line, e := Parse(full); !isZero(l) || line != 2 || e != api.ErrSyntax {
		t.Error(line, e)
	}
	if l, line, e := Parse(full + "\n"); !isZero(l) || line != 0 || e != api.ErrTooLarge {
		t.Error(line, e)
	}
	item := "item 5 8 1 1 1 " + strings.Repeat("0f", 32) + " "
	long := head + item
	long += strings.Repeat("x", api.MaxData-len(long)-1) + "\n"
	if l, line, e := Parse(long); !isZero(l) || line != 2 || e != api.ErrArg {
		t.Error(line, e)
	}
	// Too many items are not right, but each one has its form.
	more := head + strings.Repeat(item+"x\n", 300)
	if l, line, e := Parse(more); !isZero(l) || line != 301 || e != api.ErrArg {
		t.Error(line, e)
	}
}

// The example of the chapter.
func TestExample(t *testing.T) {
	l := base()
	l.Items = l.Items[:2]
	if n, d, e := Total(l); n != 50 || d != (api.Dating{First: 2, Last: 9}) || e != api.OK {
		t.Error(n, d, e)
	}
	for pages, want := range map[int][]int{40: {1, 1}, 50: {2}} {
		if p, e := Divide(l, pages); !slices.Equal(p, want) || e != api.OK {
			t.Error(pages, p, e)
		}
	}
	if s, _ := Print(l); !strings.HasPrefix(s, "list 3 8 100\nitem 1 70 5 9 30 0101") {
		t.Error(s)
	}
}
