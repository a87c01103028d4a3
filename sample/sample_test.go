package sample

import (
	"crypto/sha3"
	"math"
	"math/rand"
	"reflect"
	"regexp"
	"slices"
	"strconv"
	"strings"
	"testing"

	"archivum/api"
	"archivum/code"
	"archivum/file"
	"archivum/verdict"
)

func span(from, until int) api.Span { return api.Span{From: from, Until: until} }

func titledClasses(codes ...string) []api.Class {
	var l []api.Class
	for _, c := range codes {
		l = append(l, api.Class{Code: c, Title: "Class"})
	}
	return l
}

// base returns a registry without files: 1.1 becomes 1.2, 1.10 becomes 2, and 2.1
// becomes 2; from day 40 on there is no plan, and no file has a class.
func base() api.Registry {
	return api.Registry{
		Offices: []api.Office{{ID: 1, Name: "Mills", In: span(0, api.Forever)}},
		Plans: []api.Plan{
			{Version: 1, In: span(0, 20), Classes: titledClasses("1", "1.1", "1.2", "1.10", "2", "2.1")},
			{Version: 2, In: span(20, 40), Classes: titledClasses("1", "1.2", "2"), Moved: []api.Moved{{From: "1.1", To: "1.2"}, {From: "1.10", To: "2"}}},
		},
	}
}

// example returns a registry with files of several classes, all closed on day 5
// but for 12, which is open, and 14; 15 was transferred, and 16 destroyed.
func example() api.Registry {
	x := base()
	add := func(id, closed, points int, class, title string) {
		x.Files = append(x.Files, api.File{ID: id, Office: 1, Opened: 3, Closed: closed, Class: class, Title: title, Points: points})
	}
	add(1, 5, 10, "1", "mills")
	add(2, 5, 20, "1.10", "Roads")
	add(4, 5, 30, "1.1", "Harbour")
	add(5, 5, 40, "1.1", "roofs")
	add(7, 5, 50, "1.2", "1st")
	add(9, 5, 60, "2", "Zoo")
	add(10, 5, 70, "2.1", "z")
	add(12, api.Forever, 100, "1", "Mills")
	add(14, 8, 100, "1", "~Mills")
	add(15, 5, 100, "1", "Mills")
	add(16, 5, 100, "1", "Mills")
	x.Departures = []api.Departure{{File: 15, Day: 10}}
	x.Certificates = []api.Certificate{{Number: 1, Day: 12, Files: []int{16}}}
	return x
}

func pick[T any](r *rand.Rand, l ...T) T { return l[r.Intn(len(l))] }

// random returns a registry without a fault, with files that are open, closed,
// and gone.
func random(r *rand.Rand) api.Registry {
	x := base()
	id, destroyed, transferred := 0, r.Intn(20), r.Intn(20)
	for range r.Intn(25) {
		id += 1 + r.Intn(3)
		f := api.File{ID: id, Office: 1, Opened: r.Intn(30), Closed: api.Forever, Title: pick(r, "Mills", "mud", "Art", "Z", "z", "7", "[", "~"), Points: pick(r, 0, 40, 50, 51, 100)}
		f.Class = pick(r, x.Plans[f.Opened/20].Classes...).Code
		if r.Intn(5) > 0 {
			f.Closed = f.Opened + r.Intn(8)
		}
		x.Files = append(x.Files, f)
		switch r.Intn(6) {
		case 0:
			destroyed += r.Intn(5)
			x.Certificates = append(x.Certificates, api.Certificate{Number: id, Day: destroyed, Files: []int{id}})
		case 1:
			transferred += r.Intn(5)
			x.Departures = append(x.Departures, api.Departure{File: id, Day: transferred})
		}
	}
	return x
}

// copied returns a registry that shares no memory with another one, as far as
// this package has to do with it.
func copied(x api.Registry) api.Registry {
	x.Offices, x.Files, x.Departures = slices.Clone(x.Offices), slices.Clone(x.Files), slices.Clone(x.Departures)
	x.Plans = slices.Clone(x.Plans)
	for i := range x.Plans {
		x.Plans[i].Classes, x.Plans[i].Moved = slices.Clone(x.Plans[i].Classes), slices.Clone(x.Plans[i].Moved)
	}
	x.Certificates = slices.Clone(x.Certificates)
	for i := range x.Certificates {
		x.Certificates[i].Files = slices.Clone(x.Certificates[i].Files)
	}
	return x
}

// scoreModel is the score by Go's own SHA3.
func scoreModel(seed string, id int) string {
	sum := sha3.Sum256([]byte(seed + " " + strconv.Itoa(id)))
	return string(sum[:])
}

// candidatesModel are the files that are candidates by their verdicts.
func candidatesModel(t *testing.T, x api.Registry, class string, day int) []api.File {
	t.Helper()
	var l []api.File
	for _, f := range x.Files {
		v, e := verdict.On(x, f.ID, day)
		if e != api.OK {
			t.Fatal(x, e)
		}
		own, e := file.Class(x.Plans, f, day)
		if f.Closed <= day && v.Kind != api.VerdictGone && v.Kind != api.VerdictMoved && e == api.OK && strings.HasPrefix(own+".", class+".") {
			l = append(l, f)
		}
	}
	return l
}

// selectModel says of each candidate by itself whether it is selected.
func selectModel(s api.Sample, l []api.File) []int {
	var ids []int
	for i, f := range l {
		less := 0
		for _, g := range l {
			if scoreModel(s.Seed, g.ID) < scoreModel(s.Seed, f.ID) {
				less++
			}
		}
		letter := f.Title[0]
		if 'a' <= letter && letter <= 'z' {
			letter -= 'a' - 'A'
		}
		var ok bool
		switch s.Method {
		case api.SampleEvery:
			ok = i >= s.Start && (i-s.Start)%s.N == 0
		case api.SampleDigest:
			ok = less < s.N
		case api.SampleLetter:
			ok = strings.IndexByte(s.Seed, letter) >= 0
		case api.SamplePoints:
			ok = f.Points >= s.N
		}
		if ok {
			ids = append(ids, f.ID)
		}
	}
	return ids
}

func idsOf(l []api.File) []int {
	var ids []int
	for _, f := range l {
		ids = append(ids, f.ID)
	}
	return ids
}

// P13.1: which appraisals have no fault, and of which kind a fault is, by the
// definition; an appraisal with a fault selects nothing, whatever the registry.
func TestCheckModel(t *testing.T) {
	letters := regexp.MustCompile("^A?B?C?D?E?F?G?H?I?J?K?L?M?N?O?P?Q?R?S?T?U?V?W?X?Y?Z?$")
	seeds := []string{"", "A", "Z", "AZ", "BCX", "ABCDEFGHIJKLMNOPQRSTUVWXYZ", "AA", "ZA", "ACB", "a", "A ", "@", "[", "A[", "@A", "s", "two words", " s", "s ", "two  words", "s\n", "\x7f", "é", strings.Repeat("s", 64), strings.Repeat("s", 65)}
	numbers := []int{math.MinInt, -1, 0, 1, 2, 99, 100, 101, 255, 256, 257, math.MaxInt}
	model := func(s api.Sample) api.Errno {
		low, high, starts := 0, 0, 1
		seeded := s.Seed == ""
		switch s.Method {
		case api.SampleEvery:
			low, high, starts = 1, 256, s.N
		case api.SampleDigest:
			high, seeded = 256, code.Name(s.Seed)
		case api.SampleLetter:
			seeded = s.Seed != "" && letters.MatchString(s.Seed)
		case api.SamplePoints:
			high = 100
		default:
			return api.ErrRange
		}
		_, e := code.Parse(s.Class)
		switch {
		case s.ID < 1 || s.ID > api.MaxID, s.N < low || s.N > high, s.Start < 0 || s.Start >= starts:
			return api.ErrRange
		case e != api.OK:
			return api.ErrSyntax
		case !seeded:
			return api.ErrArg
		}
		return api.OK
	}
	found := map[api.Errno]int{}
	for _, method := range []int{math.MinInt, -1, 0, 1, 2, 3, 4, 5, math.MaxInt} {
		for _, id := range []int{math.MinInt, 0, 1, api.MaxID, api.MaxID + 1} {
			for _, n := range numbers {
				for _, start := range numbers {
					for _, class := range []string{"1", "999.999.999.999.999.999", "", "x", "1.1.1.1.1.1.1"} {
						for _, seed := range seeds {
							s := api.Sample{ID: id, Method: method, N: n, Start: start, Class: class, Seed: seed}
							e := Check(s)
							if e != model(s) {
								t.Fatal(s, e)
							}
							found[e]++
							if e == api.OK {
								continue
							}
							if l, f := Select(api.Registry{Changed: -1}, s, -1); f != e || len(l) != 0 {
								t.Fatal(s, l, f)
							}
						}
					}
				}
			}
		}
	}
	if len(found) != 4 || found[api.OK] < 100 {
		t.Error(found)
	}
}

// P13.1: the candidates of the example.
func TestCandidatesExample(t *testing.T) {
	x := example()
	for i, c := range []struct {
		class string
		day   int
		want  []int
	}{
		{"1", 0, nil}, {"1", 4, nil},
		{"1", 5, []int{1, 2, 4, 5, 7, 15, 16}}, {"1", 7, []int{1, 2, 4, 5, 7, 15, 16}}, {"1", 8, []int{1, 2, 4, 5, 7, 14, 15, 16}},
		{"1", 9, []int{1, 2, 4, 5, 7, 14, 15, 16}}, {"1", 10, []int{1, 2, 4, 5, 7, 14, 16}}, {"1", 11, []int{1, 2, 4, 5, 7, 14, 16}}, {"1", 12, []int{1, 2, 4, 5, 7, 14}},
		{"1.1", 12, []int{4, 5}}, {"1.10", 12, []int{2}}, {"2", 12, []int{9, 10}}, {"2.1", 12, []int{10}}, {"3", 12, nil}, {"1.1.1", 12, nil}, {"10", 12, nil},
		// The next version of the plan.
		{"1", 19, []int{1, 2, 4, 5, 7, 14}}, {"1", 20, []int{1, 4, 5, 7, 14}}, {"1.1", 20, nil}, {"1.2", 20, []int{4, 5, 7}}, {"2", 20, []int{2, 9, 10}}, {"2.1", 20, nil}, {"1", 39, []int{1, 4, 5, 7, 14}},
		{"1", 40, nil}, {"2", api.MaxDay, nil},
	} {
		if l, e := Candidates(x, c.class, c.day); e != api.OK || !slices.Equal(l, c.want) {
			t.Error(i, l, e)
		}
	}
	if l, e := Candidates(api.Registry{}, "1", 0); e != api.OK || len(l) != 0 {
		t.Error(l, e)
	}
}

// P13.1, P13.2: candidates and what is selected of them are those of the
// definition; arguments are not modified, and results are the caller's.
func TestSelectModel(t *testing.T) {
	r := rand.New(rand.NewSource(130))
	var selected, left [5]int
	for range 300 {
		x := random(r)
		was := copied(x)
		for _, day := range []int{r.Intn(20), 20 + r.Intn(20), 20 + r.Intn(20), 39, 40 + r.Intn(9)} {
			class := pick(r, "1", "1.1", "1.2", "1.10", "2", "2.1", "3")
			l := candidatesModel(t, x, class, day)
			got, e := Candidates(x, class, day)
			if e != api.OK || !slices.Equal(got, idsOf(l)) {
				t.Fatal(x, class, day, got, e)
			}
			for i := range got {
				got[i] = -1
			}
			for _, s := range []api.Sample{
				{Method: api.SampleEvery, N: 1 + r.Intn(5)}, {Method: api.SampleEvery, N: 5, Start: r.Intn(5)}, {Method: api.SampleEvery, N: 256, Start: 255 * r.Intn(2)},
				{Method: api.SampleDigest, N: r.Intn(6), Seed: pick(r, "s", "a seed", "7")}, {Method: api.SampleDigest, N: 256, Seed: "s"}, {Method: api.SampleDigest, Seed: "s"},
				{Method: api.SampleLetter, Seed: pick(r, "M", "AZ", "BCY", "MZ", "ABCDEFGHIJKLMNOPQRSTUVWXYZ")},
				{Method: api.SamplePoints, N: pick(r, 0, 50, 51, 100)},
			} {
				s.ID, s.Class = 1+r.Intn(api.MaxID), class
				want := selectModel(s, l)
				got, e := Select(x, s, day)
				if e != api.OK || !slices.Equal(got, want) {
					t.Fatal(x, s, day, got, want, e)
				}
				for i := range got {
					got[i] = -1
				}
				selected[s.Method] += len(want)
				left[s.Method] += len(l) - len(want)
			}
		}
		if !reflect.DeepEqual(x, was) {
			t.Fatal("changed")
		}
	}
	if slices.Min(selected[1:]) < 300 || slices.Min(left[1:]) < 300 {
		t.Error(selected, left)
	}
}

// P13.2: the example of the chapter, and each method on the example.
func TestSelectExample(t *testing.T) {
	x := base()
	for _, id := range []int{3, 5, 8, 9} {
		x.Files = append(x.Files, api.File{ID: id, Office: 1, Class: "1", Title: "File"})
	}
	if l, e := Select(x, api.Sample{ID: 1, Method: api.SampleEvery, N: 2, Start: 1, Class: "1"}, 1); e != api.OK || !slices.Equal(l, []int{5, 9}) {
		t.Error(l, e)
	}
	byScore := []int{1, 2, 4, 5, 7, 14}
	slices.SortFunc(byScore, func(a, b int) int { return strings.Compare(scoreModel("seed", a), scoreModel("seed", b)) })
	three := slices.Sorted(slices.Values(byScore[:3]))
	for i, c := range []struct {
		s    api.Sample
		want []int
	}{
		{api.Sample{Method: api.SampleEvery, N: 1}, []int{1, 2, 4, 5, 7, 14}}, {api.Sample{Method: api.SampleEvery, N: 4}, []int{1, 7}}, {api.Sample{Method: api.SampleEvery, N: 4, Start: 1}, []int{2, 14}},
		{api.Sample{Method: api.SampleEvery, N: 4, Start: 3}, []int{5}}, {api.Sample{Method: api.SampleEvery, N: 6, Start: 5}, []int{14}}, {api.Sample{Method: api.SampleEvery, N: 7, Start: 6}, nil},
		{api.Sample{Method: api.SampleDigest, N: 0, Seed: "seed"}, nil}, {api.Sample{Method: api.SampleDigest, N: 1, Seed: "seed"}, byScore[:1]}, {api.Sample{Method: api.SampleDigest, N: 3, Seed: "seed"}, three},
		{api.Sample{Method: api.SampleDigest, N: 6, Seed: "seed"}, []int{1, 2, 4, 5, 7, 14}}, {api.Sample{Method: api.SampleDigest, N: 7, Seed: "seed"}, []int{1, 2, 4, 5, 7, 14}},
		{api.Sample{Method: api.SampleLetter, Seed: "M"}, []int{1}}, {api.Sample{Method: api.SampleLetter, Seed: "HR"}, []int{2, 4, 5}}, {api.Sample{Method: api.SampleLetter, Seed: "Z"}, nil},
		{api.Sample{Method: api.SamplePoints, N: 0}, []int{1, 2, 4, 5, 7, 14}}, {api.Sample{Method: api.SamplePoints, N: 40}, []int{5, 7, 14}}, {api.Sample{Method: api.SamplePoints, N: 41}, []int{7, 14}}, {api.Sample{Method: api.SamplePoints, N: 100}, []int{14}},
	} {
		c.s.ID, c.s.Class = 1, "1"
		if l, e := Select(example(), c.s, 12); e != api.OK || !slices.Equal(l, c.want) {
			t.Error(i, l, e)
		}
	}
}

// P13.1: scores, with the least and the greatest ID, and invalid arguments.
func TestScore(t *testing.T) {
	for _, seed := range []string{"s", "a seed", "~", strings.Repeat("s", 64)} {
		for _, id := range []int{1, 9, 10, 1000, api.MaxID} {
			if s, e := Score(seed, id); e != api.OK || s != scoreModel(seed, id) {
				t.Error(seed, id, e)
			}
		}
	}
	for _, seed := range []string{"", " ", "s ", " s", "a  b", "s\n", "\x80", "\x1f", strings.Repeat("s", 65)} {
		for _, id := range []int{1, 0, -1} {
			if s, e := Score(seed, id); e != api.ErrName || s != "" {
				t.Error(seed, id, e)
			}
		}
	}
	for _, id := range []int{0, -1, api.MaxID + 1, math.MinInt, math.MaxInt} {
		if s, e := Score("s", id); e != api.ErrRange || s != "" {
			t.Error(id, e)
		}
	}
}

// P13.1, P13.2: invalid arguments, in the order of their errors.
func TestErrors(t *testing.T) {
	wrong := example()
	wrong.Files[0].Points = 101
	twice := example()
	twice.Departures = append(twice.Departures, api.Departure{File: 16, Day: 30})
	for i, c := range []struct {
		x     api.Registry
		class string
		day   int
		e     api.Errno
	}{
		{wrong, "1", 5, api.ErrArg}, {wrong, "x", 5, api.ErrArg}, {wrong, "1", -1, api.ErrArg}, {twice, "1", 5, api.ErrArg}, {twice, "", -1, api.ErrArg},
		{example(), "", 5, api.ErrSyntax}, {example(), "x", 5, api.ErrSyntax}, {example(), "1.", -1, api.ErrSyntax}, {example(), "1.1.1.1.1.1.1", api.Forever, api.ErrSyntax}, {example(), "1000", 5, api.ErrSyntax},
		{example(), "1", -1, api.ErrRange}, {example(), "1", api.Forever, api.ErrRange}, {example(), "1", math.MinInt, api.ErrRange}, {example(), "1", math.MaxInt, api.ErrRange},
	} {
		if l, e := Candidates(c.x, c.class, c.day); e != c.e || len(l) != 0 {
			t.Error(i, l, e)
		}
		for _, n := range []int{0, -1, 1000} {
			if l, e := Strata(c.x, c.class, "s", n, c.day); e != c.e || len(l) != 0 {
				t.Error(i, l, e)
			}
			if l, e := Strata(c.x, c.class, "", n, c.day); e != api.ErrName || len(l) != 0 {
				t.Error(i, l, e)
			}
		}
		// Here the class is that of an appraisal, whose faults go ahead.
		want := c.e
		if c.class != "1" {
			want = api.ErrSyntax
		}
		if l, e := Select(c.x, api.Sample{ID: 1, Method: api.SamplePoints, Class: c.class}, c.day); e != want || len(l) != 0 {
			t.Error(i, l, e)
		}
	}
	for _, n := range []int{-1, 7, math.MinInt, math.MaxInt} {
		if l, e := Strata(example(), "1", "s", n, 12); e != api.ErrRange || len(l) != 0 {
			t.Error(n, l, e)
		}
	}
}

// quotasModel gives away what is left one by one, each time to the first count
// with the greatest remainder that has got nothing yet.
func quotasModel(n int, counts []int) []int {
	total := 0
	for _, c := range counts {
		total += c
	}
	quotas, rest := make([]int, len(counts)), make([]int, len(counts))
	if total == 0 {
		return quotas
	}
	left := n
	for i, c := range counts {
		quotas[i], rest[i] = n*c/total, n*c%total
		left -= quotas[i]
	}
	for ; left > 0; left-- {
		i := slices.Index(rest, slices.Max(rest))
		quotas[i]++
		rest[i] = -1
	}
	return quotas
}

// P13.2: the chapter's example, and others.
func TestQuotas(t *testing.T) {
	for i, c := range []struct {
		n            int
		counts, want []int
	}{
		{5, []int{3, 3, 4}, []int{2, 1, 2}}, {0, []int{3, 3, 4}, []int{0, 0, 0}}, {10, []int{3, 3, 4}, []int{3, 3, 4}}, {9, []int{3, 3, 4}, []int{3, 3, 3}},
		{0, nil, nil}, {0, []int{0}, []int{0}}, {0, []int{0, 0}, []int{0, 0}}, {1, []int{0, 1, 0}, []int{0, 1, 0}},
		{1, []int{1, 1}, []int{1, 0}}, {2, []int{1, 1, 1}, []int{1, 1, 0}}, {2, []int{1, 2, 1}, []int{1, 1, 0}}, {1, []int{1, 2, 2}, []int{0, 1, 0}}, {3, []int{0, 1, 9}, []int{0, 0, 3}},
		{1 << 20, []int{1 << 20}, []int{1 << 20}}, {1<<20 + 1, []int{1 << 20, 1 << 20}, []int{1<<19 + 1, 1 << 19}},
	} {
		was := slices.Clone(c.counts)
		if q, e := Quotas(c.n, c.counts); e != api.OK || !slices.Equal(q, c.want) || !slices.Equal(c.counts, was) {
			t.Error(i, q, e)
		}
	}
	most := slices.Repeat([]int{1 << 20}, api.MaxClasses)
	if q, e := Quotas(api.MaxClasses<<20, most); e != api.OK || !slices.Equal(q, most) {
		t.Error(e)
	}
	if q, e := Quotas(api.MaxClasses<<20-1, most); e != api.OK || !slices.Equal(q, quotasModel(api.MaxClasses<<20-1, most)) || q[api.MaxClasses-1] != 1<<20-1 {
		t.Error(e)
	}
}

// P13.2: invalid numbers and counts, in the order of their errors.
func TestQuotasErrors(t *testing.T) {
	for i, c := range []struct {
		n      int
		counts []int
		e      api.Errno
	}{
		{0, make([]int, api.MaxClasses+1), api.ErrTooLarge}, {-1, append(make([]int, api.MaxClasses), -1), api.ErrTooLarge},
		{0, []int{-1}, api.ErrRange}, {0, []int{1, 1<<20 + 1}, api.ErrRange}, {0, []int{math.MaxInt, math.MaxInt}, api.ErrRange}, {0, []int{math.MinInt}, api.ErrRange}, {1, []int{3, -1}, api.ErrRange},
		{-1, []int{3}, api.ErrRange}, {4, []int{3}, api.ErrRange}, {1, nil, api.ErrRange}, {-1, nil, api.ErrRange}, {1, []int{0, 0}, api.ErrRange}, {math.MaxInt, []int{3}, api.ErrRange}, {math.MinInt, []int{3}, api.ErrRange},
	} {
		if q, e := Quotas(c.n, c.counts); e != c.e || len(q) != 0 {
			t.Error(i, q, e)
		}
	}
	if q, e := Quotas(0, make([]int, api.MaxClasses)); e != api.OK || len(q) != api.MaxClasses {
		t.Error(q, e)
	}
}

// fair checks that quotas have the sum n, are near the exact ones, and are none
// greater than their counts.
func fair(t *testing.T, n int, counts, quotas []int) {
	t.Helper()
	total, sum := 0, 0
	for _, c := range counts {
		total += c
	}
	for i, c := range counts {
		sum += quotas[i]
		if quotas[i] > c || quotas[i]*total <= n*c-total && total > 0 || quotas[i]*total >= n*c+total && total > 0 {
			t.Fatal(n, counts, quotas)
		}
	}
	if sum != n {
		t.Fatal(n, counts, quotas)
	}
}

// P13.2, P13.3: all quotas for up to four small counts, and random ones.
func TestQuotasModel(t *testing.T) {
	check := func(n int, counts []int) {
		q, e := Quotas(n, counts)
		if e != api.OK || !slices.Equal(q, quotasModel(n, counts)) {
			t.Fatal(n, counts, q, e)
		}
		fair(t, n, counts, q)
	}
	var all func(counts []int, total int)
	all = func(counts []int, total int) {
		for n := range total + 1 {
			check(n, counts)
		}
		if len(counts) < 4 {
			for c := range 6 {
				all(append(slices.Clone(counts), c), total+c)
			}
		}
	}
	all(nil, 0)
	r := rand.New(rand.NewSource(131))
	for range 2000 {
		var counts []int
		total := 0
		most := pick(r, 3, 100, 1<<20)
		for range r.Intn(api.MaxClasses + 1) {
			counts = append(counts, r.Intn(most+1))
			total += counts[len(counts)-1]
		}
		check(r.Intn(total+1), counts)
	}
}

// strataModel selects from each class, in the order of the codes, by the quotas.
func strataModel(x api.Registry, seed string, l []api.File, n, day int) []int {
	var out, counts []int
	var groups [][]api.File
	for _, class := range []string{"1", "1.1", "1.2", "1.10", "2", "2.1"} {
		var group []api.File
		for _, f := range l {
			if own, _ := file.Class(x.Plans, f, day); own == class {
				group = append(group, f)
			}
		}
		groups, counts = append(groups, group), append(counts, len(group))
	}
	for i, q := range quotasModel(n, counts) {
		out = append(out, selectModel(api.Sample{Method: api.SampleDigest, N: q, Seed: seed}, groups[i])...)
	}
	slices.Sort(out)
	return out
}

// P13.2, P13.3: strata are those of the definition, and select just n files.
func TestStrataModel(t *testing.T) {
	r := rand.New(rand.NewSource(132))
	found := 0
	for range 500 {
		x := random(r)
		was := copied(x)
		class, seed, day := pick(r, "1", "1", "1.1", "1.2", "2"), pick(r, "s", "a seed"), 10+r.Intn(32)
		l := candidatesModel(t, x, class, day)
		for n := range len(l) + 1 {
			want := strataModel(x, seed, l, n, day)
			got, e := Strata(x, class, seed, n, day)
			if e != api.OK || !slices.Equal(got, want) || len(got) != n {
				t.Fatal(x, class, seed, n, day, got, want, e)
			}
			found += n
			for i := range got {
				got[i] = -1
			}
		}
		for _, n := range []int{-1, len(l) + 1} {
			if got, e := Strata(x, class, seed, n, day); e != api.ErrRange || len(got) != 0 {
				t.Fatal(x, class, n, day, got, e)
			}
		}
		if !reflect.DeepEqual(x, was) {
			t.Fatal("changed")
		}
	}
	if found < 1000 {
		t.Error(found)
	}
}

// P13.2: the classes count in the order of their codes, in which 1.2 is ahead of
// 1.10, also if their files have another order.
func TestStrataOrder(t *testing.T) {
	x := base()
	for i, class := range []string{"1.10", "1.2", "1.1", "1", "1.10", "1.2", "1.1", "1"} {
		x.Files = append(x.Files, api.File{ID: i + 1, Office: 1, Class: class, Title: "File"})
	}
	classes := func(n int) string {
		l, e := Strata(x, "1", "s", n, 1)
		if e != api.OK {
			t.Fatal(e)
		}
		var out []string
		for _, id := range l {
			out = append(out, x.Files[id-1].Class)
		}
		slices.Sort(out)
		return strings.Join(out, " ")
	}
	// The quota of the last class is 0 as long as not all others have the same.
	for n, want := range []string{"", "1", "1 1.1", "1 1.1 1.2", "1 1.1 1.10 1.2", "1 1 1.1 1.10 1.2", "1 1 1.1 1.1 1.10 1.2", "1 1 1.1 1.1 1.10 1.2 1.2", "1 1 1.1 1.1 1.10 1.10 1.2 1.2"} {
		if got := classes(n); got != want {
			t.Error(n, got)
		}
	}
}

// P13.3: a greater sample by digests contains a lesser one, and whether a file is
// in it depends on its score, and on how many have lesser ones.
func TestSampleGrows(t *testing.T) {
	r := rand.New(rand.NewSource(133))
	for range 200 {
		x := random(r)
		day := 10 + r.Intn(28)
		l, e := Candidates(x, "1", day)
		if e != api.OK {
			t.Fatal(e)
		}
		var before []int
		for n := range len(l) + 2 {
			got, e := Select(x, api.Sample{ID: 1, Method: api.SampleDigest, N: n, Class: "1", Seed: "s"}, day)
			if e != api.OK || len(got) != min(n, len(l)) || slices.ContainsFunc(before, func(id int) bool { return !slices.Contains(got, id) }) {
				t.Fatal(x, n, day, before, got, e)
			}
			before = got
		}
		if len(l) < 2 {
			continue
		}
		// Without a candidate that is not selected the others remain.
		n := 1 + r.Intn(len(l)-1)
		s := api.Sample{ID: 1, Method: api.SampleDigest, N: n, Class: "1", Seed: "s"}
		was, _ := Select(x, s, day)
		other := slices.IndexFunc(l, func(id int) bool { return !slices.Contains(was, id) })
		less := copied(x)
		i := file.Find(less.Files, l[other])
		less.Files[i].Closed = api.Forever
		if got, e := Select(less, s, day); e != api.OK || !slices.Equal(got, was) {
			t.Fatal(x, less, got, was, e)
		}
	}
}
