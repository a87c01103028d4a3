package code

import (
	"cmp"
	"fmt"
	"math"
	"math/big"
	"math/rand"
	"regexp"
	"slices"
	"strings"
	"testing"

	"archivum/api"
)

// form is the form of class codes.
var form = regexp.MustCompile(`\A[1-9][0-9]{0,2}(\.[1-9][0-9]{0,2}){0,5}\z`)

// wrong are strings that are no class codes.
var wrong = []string{
	"", ".", "..", "1.", ".1", "1..2", "1.2.", "0", "00", "01", "1.02", "1.0", "1000", "1.1000", "01000", "99999999999999999999", "1.99999999999999999999",
	"18446744073709551617", "1.1.1.1.1.1.1", "1.1.1.1.1.1.", "1.1.1.1.1.1.x", strings.Repeat("1.", 5000) + "1", strings.Repeat("1", 5000),
	" 1", "1 ", "1. 2", "1 .2", "-1", "+1", "1.+2", "1.-2", "1,2", "1/2", "a", "1.a", "1a", "0x1", "1e1", "1_1", "1\x00", "1\n", "\u0661", "1\xff", "1.\uff11", "\u00b2",
}

// random returns numbers of a class code, which are often few, small and equal.
func random(r *rand.Rand, most int) []int {
	l := make([]int, 1+r.Intn(most))
	for i := range l {
		l[i] = 1 + r.Intn(3)
		switch r.Intn(6) {
		case 0:
			l[i] = 9 + r.Intn(3)
		case 1:
			l[i] = 98 + r.Intn(5)
		case 2:
			l[i] = api.MaxPart - r.Intn(3)
		}
	}
	return l
}

// text writes numbers with dots.
func text(l []int) string { return strings.ReplaceAll(strings.Trim(fmt.Sprint(l), "[]"), " ", ".") }

// texts returns all strings over an alphabet that have at most n bytes.
func texts(alphabet string, n int) []string {
	all, last := []string{""}, []string{""}
	for range n {
		var next []string
		for _, s := range last {
			for i := range len(alphabet) {
				next = append(next, s+alphabet[i:i+1])
			}
		}
		all, last = append(all, next...), next
	}
	return all
}

// P5.1, P5.4: codes and lists of numbers belong to each other one to one.
func TestParseAndFormat(t *testing.T) {
	r := rand.New(rand.NewSource(51))
	for range 20000 {
		l := random(r, api.MaxParts)
		was := slices.Clone(l)
		code, e := Format(l)
		if code != text(l) || e != api.OK || !slices.Equal(l, was) {
			t.Fatal(l, code, e)
		}
		got, e := Parse(code)
		if !slices.Equal(got, l) || e != api.OK {
			t.Fatal(code, got, e)
		}
		again, _ := Parse(code)
		got[0] = -1
		if !slices.Equal(again, l) {
			t.Fatal("shared", again)
		}
	}
	for n := 1; n <= api.MaxPart; n++ {
		if code, e := Format([]int{n}); code != fmt.Sprint(n) || e != api.OK {
			t.Error(n, code, e)
		}
		if l, e := Parse(fmt.Sprint(n)); !slices.Equal(l, []int{n}) || e != api.OK {
			t.Error(n, l, e)
		}
	}
}

// P5.1: a string is a class code exactly if it has the form.
func TestSyntax(t *testing.T) {
	check := func(s string) {
		l, e := Parse(s)
		if ok := form.MatchString(s); ok != (e == api.OK) || !ok && (e != api.ErrSyntax || len(l) != 0) || ok && text(l) != s {
			t.Fatalf("%q %v %v", s, l, e)
		}
	}
	for _, s := range texts("019.-", 6) {
		check(s)
	}
	for _, s := range wrong {
		if form.MatchString(s) {
			t.Errorf("%q", s)
		}
		check(s)
	}
	for _, code := range []string{"7", "999", "3.12.1", "1.1.1.1.1.999", "999.999.999.999.999.999"} {
		check(code)
		for i := range len(code) + 1 {
			for c := range 256 {
				check(code[:i] + string([]byte{byte(c)}) + code[i:])
				if i < len(code) {
					check(code[:i] + string([]byte{byte(c)}) + code[i+1:])
				}
			}
			check(code[:i])
			check(code[i:])
		}
	}
}

// P5.1: what Format refuses.
func TestFormatErrors(t *testing.T) {
	for i, l := range [][]int{
		nil, {}, {0}, {-1}, {api.MaxPart + 1}, {math.MaxInt}, {math.MinInt}, {1, 0}, {0, 1}, {1, 2, 1000, 4}, {1, 2, 3, 4, 5, 0},
		{1, 1, 1, 1, 1, 1, 1}, make([]int, 5000),
	} {
		if s, e := Format(l); s != "" || e != api.ErrRange {
			t.Error(i, s, e)
		}
	}
}

// P5.1: parents.
func TestParent(t *testing.T) {
	r := rand.New(rand.NewSource(52))
	for range 5000 {
		l := random(r, api.MaxParts)
		want := ""
		if len(l) > 1 {
			want = text(l[:len(l)-1])
		}
		if p, ok := Parent(text(l)); p != want || ok != (len(l) > 1) {
			t.Fatal(l, p, ok)
		}
	}
	for _, s := range append(wrong, "1", "999", "12") {
		if p, ok := Parent(s); p != "" || ok {
			t.Errorf("%q %q", s, p)
		}
	}
}

// P5.2: the order of numbers, in which a code is less than those within it.
func TestCompare(t *testing.T) {
	// Texts whose numbers have the same width are in the order of strings.
	wide := func(l []int) string {
		s := ""
		for _, n := range l {
			s += fmt.Sprintf("%03d", n)
		}
		return s
	}
	r := rand.New(rand.NewSource(53))
	for range 50000 {
		a, b := random(r, api.MaxParts), random(r, api.MaxParts)
		switch r.Intn(8) {
		case 0:
			b = a
		case 1:
			b = a[:1+r.Intn(len(a))]
		}
		if n, e := Compare(text(a), text(b)); n != cmp.Compare(wide(a), wide(b)) || e != api.OK {
			t.Fatal(a, b, n, e)
		}
	}
	for _, s := range wrong {
		for _, x := range [][2]string{{s, "1"}, {"1", s}, {s, s}, {s, "x"}} {
			if n, e := Compare(x[0], x[1]); n != 0 || e != api.ErrSyntax {
				t.Errorf("%q %v %v", x, n, e)
			}
		}
	}
}

// P5.2: a code is within another one if it is the same, or goes on with a dot.
func TestWithin(t *testing.T) {
	r := rand.New(rand.NewSource(54))
	for range 50000 {
		a, b := text(random(r, 4)), text(random(r, 3))
		if got, want := Within(a, b), a == b || strings.HasPrefix(a, b+"."); got != want {
			t.Fatal(a, b, got)
		}
	}
	if !Within("1.1.1.1.1.1", "1.1.1.1.1.1") || !Within("9.1.1.1.1.1", "9") || Within("9", "9.1.1.1.1.1") {
		t.Error("six numbers")
	}
	for _, s := range wrong {
		if Within(s, "1") || Within("1", s) || Within(s, s) || Within("1.1.1.1.1.1", s) {
			t.Errorf("%q", s)
		}
	}
}

// P5.4: a parent is less than its code, everything between a code and one that
// is within it is within it, too, and what is within two codes orders them.
func TestOrderOfTheTree(t *testing.T) {
	r := rand.New(rand.NewSource(55))
	less := func(a, b string) bool {
		n, e := Compare(a, b)
		if e != api.OK {
			t.Fatal(a, b, e)
		}
		return n < 0
	}
	var l []string
	for range 150 {
		l = append(l, text(random(r, 4)))
	}
	for _, a := range l {
		if p, ok := Parent(a); ok && !(less(p, a) && Within(a, p) && !Within(p, a)) {
			t.Fatal(p, a)
		}
		for _, b := range l {
			if same := !less(a, b) && !less(b, a); same != (a == b) || less(a, b) && less(b, a) {
				t.Fatal(a, b)
			}
			for _, c := range l {
				if less(a, b) && less(b, c) && !less(a, c) {
					t.Fatal(a, b, c)
				}
				if less(a, b) && less(b, c) && Within(c, a) && !Within(b, a) {
					t.Fatal(a, b, c)
				}
			}
		}
	}
}

// free is the model of Free: it looks for each number whether its code is there.
func free(taken []string, above string) (string, api.Errno) {
	if above != "" {
		above += "."
	}
	for n := 1; n <= api.MaxPart; n++ {
		if code := above + fmt.Sprint(n); !slices.Contains(taken, code) {
			return code, api.OK
		}
	}
	return "", api.ErrFull
}

// P5.2: the first free code.
func TestFree(t *testing.T) {
	r := rand.New(rand.NewSource(56))
	for range 5000 {
		var taken []string
		for range r.Intn(12) {
			taken = append(taken, text(random(r, 3)))
		}
		above := ""
		if r.Intn(3) > 0 {
			above = text(random(r, 2))
		}
		was := slices.Clone(taken)
		want, f := free(taken, above)
		if got, e := Free(taken, above); got != want || e != f || !slices.Equal(taken, was) {
			t.Fatal(taken, above, got, e, want)
		}
	}
	for i, x := range []struct {
		taken []string
		above string
		want  string
	}{
		{nil, "", "1"}, {[]string{}, "7", "7.1"}, {[]string{"2", "3"}, "", "1"}, {[]string{"3", "1", "2", "1"}, "", "4"},
		{[]string{"3.1", "3.3"}, "3", "3.2"}, {[]string{"3.2", "3.1"}, "3", "3.3"}, {[]string{"3.1", "3.2"}, "4", "4.1"},
		// What is only below a code, or above it, does not take it.
		{[]string{"3.1.1", "3.1.2"}, "3", "3.1"}, {[]string{"1.1"}, "", "1"}, {[]string{"3", "4"}, "3", "3.1"}, {[]string{"1", "2"}, "2", "2.1"},
		{[]string{"31.1", "3.11"}, "3", "3.1"}, {nil, "1.1.1.1.1", "1.1.1.1.1.1"}, {[]string{"1.1.1.1.1.1"}, "1.1.1.1.1", "1.1.1.1.1.2"},
		{nil, "999.999", "999.999.1"},
	} {
		if got, e := Free(x.taken, x.above); got != x.want || e != api.OK {
			t.Error(i, got, e)
		}
	}
}

// children returns the codes of all 999 children, in reverse order.
func children(above string) []string {
	var l []string
	for n := api.MaxPart; n >= 1; n-- {
		l = append(l, above+fmt.Sprint(n))
	}
	return l
}

// P5.2: when no code is free, and which error comes first.
func TestFreeErrors(t *testing.T) {
	for _, above := range []string{"", "3", "1.1.1.1.1"} {
		dot := above
		if above != "" {
			dot += "."
		}
		all := children(dot)
		if got, e := Free(all, above); got != "" || e != api.ErrFull {
			t.Error(above, got, e)
		}
		if got, e := Free(all, "5"); got != "5.1" || e != api.OK {
			t.Error(above, got, e)
		}
		for _, n := range []int{1, 2, 500, 998, 999} {
			rest := slices.DeleteFunc(slices.Clone(all), func(s string) bool { return s == dot+fmt.Sprint(n) })
			if got, e := Free(rest, above); got != dot+fmt.Sprint(n) || e != api.OK {
				t.Error(above, n, got, e)
			}
		}
	}
	full := slices.Repeat([]string{"3.1"}, api.MaxList)
	for i, x := range []struct {
		taken []string
		above string
		want  string
		e     api.Errno
	}{
		{full, "3", "3.2", api.OK},
		{append(full, "3.1"), "3", "", api.ErrTooLarge},
		{append(full, "x"), "3", "", api.ErrTooLarge},
		{append(full, "x"), "x", "", api.ErrTooLarge},
		{append(full, "3"), "1.1.1.1.1.1", "", api.ErrTooLarge},
		{append(slices.Clone(full[1:]), "x"), "3", "", api.ErrSyntax},
		{[]string{"x"}, "1.1.1.1.1.1", "", api.ErrSyntax},
		{[]string{"1", ""}, "", "", api.ErrSyntax},
		{[]string{"1"}, "1.", "", api.ErrSyntax},
		{nil, "1.1.1.1.1.1.1", "", api.ErrSyntax},
		{nil, "1.1.1.1.1.1", "", api.ErrFull},
		{append(children(""), "x"), "", "", api.ErrSyntax},
	} {
		if got, e := Free(x.taken, x.above); got != x.want || e != x.e {
			t.Error(i, got, e)
		}
	}
	for _, s := range wrong {
		if got, e := Free([]string{"1", s, "2"}, "1"); got != "" || e != api.ErrSyntax {
			t.Errorf("%q %v %v", s, got, e)
		}
		if got, e := Free(nil, s); s != "" && (got != "" || e != api.ErrSyntax) {
			t.Errorf("%q %v %v", s, got, e)
		}
	}
}

// P5.3: names.
func TestName(t *testing.T) {
	name := regexp.MustCompile(`\A[!-~]+( [!-~]+)*\z`)
	check := func(s string) {
		if got, want := Name(s), len(s) <= api.MaxName && name.MatchString(s); got != want {
			t.Fatalf("%q %v", s, got)
		}
	}
	for _, s := range texts(" a~", 6) {
		check(s)
	}
	for c := range 256 {
		b := string([]byte{byte(c)})
		for _, s := range []string{b, b + "a", "a" + b, "a" + b + "b", "a " + b, b + " b", "a " + b + " b"} {
			check(s)
		}
		if Name("x"+b+"y") != (' ' <= c && c <= '~') || Name(b) != (' ' < c && c <= '~') {
			t.Error(c)
		}
	}
	for n := range 70 {
		check(strings.Repeat("a", n))
		check(strings.Repeat("ab ", n))
		check(strings.Repeat("a ", n) + "b")
		check(strings.Repeat(" ", n))
	}
	if !Name(strings.Repeat("a", 64)) || Name(strings.Repeat("a", 65)) || Name("Gr\u00fcn") || Name("a\tb") {
		t.Error("limits")
	}
}

var pattern = regexp.MustCompile(`(?s)[0-9]+|.`)

// natural order by the definition: parts as a list, and numbers of any size.
func compareModel(a, b string) int {
	// Each byte is a character of its own in the pattern.
	p, q := pattern.FindAllString(latin(a), -1), pattern.FindAllString(latin(b), -1)
	isRun := func(s string) bool { return s[0] >= '0' && s[0] <= '9' }
	for i := range min(len(p), len(q)) {
		x, y := p[i], q[i]
		n := 0
		switch {
		case isRun(x) && isRun(y):
			v, _ := new(big.Int).SetString(x, 10)
			w, _ := new(big.Int).SetString(y, 10)
			n = v.Cmp(w)
		case isRun(x):
			n = -1
		case isRun(y):
			n = 1
		default:
			n = cmp.Compare([]rune(x)[0], []rune(y)[0])
		}
		if n != 0 {
			return n
		}
	}
	if len(p) != len(q) {
		return cmp.Compare(len(p), len(q))
	}
	return cmp.Compare(a, b)
}

// latin returns a string in which each byte is a character.
func latin(s string) string {
	l := make([]rune, len(s))
	for i := range len(s) {
		l[i] = rune(s[i])
	}
	return string(l)
}

// P5.3: the natural order is that of the model.
func TestNatural(t *testing.T) {
	all := texts("01 a", 4)
	for _, a := range all {
		for _, b := range all {
			if n := Natural(a, b); n != compareModel(a, b) {
				t.Fatalf("%q %q %d", a, b, n)
			}
		}
	}
	r := rand.New(rand.NewSource(57))
	any := func() string {
		var s []byte
		for range r.Intn(9) {
			s = append(s, "0012 /:A\x00\xff\x80"[r.Intn(11)])
		}
		return string(s)
	}
	for range 100000 {
		common := any()
		a, b := common+any(), common+any()
		if n := Natural(a, b); n != compareModel(a, b) {
			t.Fatalf("%q %q %d", a, b, n)
		}
	}
}

// P5.3: edges of the natural order.
func TestNaturalEdges(t *testing.T) {
	long := strings.Repeat("9", 5000)
	for i, x := range []struct{ less, more string }{
		{"A 9", "A 10"}, {"A 010", "A 10"}, {"7", "A"}, {"", "0"}, {"", " "}, {"", "\x00"}, {"0", "00"}, {"00", "1"}, {"9", " "}, {"9", "\x00"}, {"a9", "a "}, {"a9", "a/"}, {"9", "/"}, {"9", ":"},
		{"A", "a"}, {"~", "\x80"}, {"\x7f", "\xff"}, {"a", "a0"}, {"a", "aa"}, {"a 1", "a 1 "}, {"a 01", "a 1"}, {"a 1", "a 01b"}, {"a 1", "a 001 0"}, {"a 001 0", "a 1 0"}, {"a01b2", "a1b02"}, {"a1b02", "a1b2"},
		{"2", "02a"}, {"1 9", "01 10"}, {"01 9", "1 10"}, {"x99999999999999999998", "x99999999999999999999"}, {"18446744073709551616", "18446744073709551617"}, {"1", "18446744073709551616"},
		{long, long + "0"}, {"8" + long, "9" + long}, {strings.Repeat("0", 5000) + "1", "2"}, {strings.Repeat("0", 5000) + "1", "1"}, {long, " "},
	} {
		if n, m := Natural(x.less, x.more), Natural(x.more, x.less); n != -1 || m != 1 {
			t.Errorf("%d %.40q %.40q %d %d", i, x.less, x.more, n, m)
		}
		if n, m := Natural(x.less, x.less), Natural(x.more, x.more); n != 0 || m != 0 {
			t.Error(i, n, m)
		}
	}
}

// P5.3, P5.4: Sort leads to one order, in which each string is less than all
// different ones behind it.
func TestSort(t *testing.T) {
	all := texts("019 a", 3)
	r := rand.New(rand.NewSource(58))
	r.Shuffle(len(all), func(i, k int) { all[i], all[k] = all[k], all[i] })
	was := slices.Clone(all)
	sorted := Sort(all)
	if !slices.Equal(all, was) || len(sorted) != len(all) {
		t.Fatal("changed")
	}
	for i, a := range sorted {
		for k, b := range sorted {
			if n := Natural(a, b); n != cmp.Compare(i, k) {
				t.Fatalf("%q %q %d", a, b, n)
			}
		}
	}
	for range 1000 {
		l := make([]string, r.Intn(30))
		for i := range l {
			l[i] = all[r.Intn(len(all))]
		}
		want := slices.Clone(l)
		slices.SortFunc(want, compareModel)
		was := slices.Clone(l)
		got := Sort(l)
		if !slices.Equal(got, want) || !slices.Equal(l, was) {
			t.Fatalf("%q %q", l, got)
		}
		for i := range got {
			got[i] = "spoilt"
		}
		if !slices.Equal(l, was) {
			t.Fatal("shared")
		}
	}
	if len(Sort(nil)) != 0 || len(Sort([]string{})) != 0 {
		t.Error("empty")
	}
}
