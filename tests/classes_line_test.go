package tests

import (
	"math/rand"
	"slices"
	"testing"

	"loop.example/g00009/impl"
)

// TestP9LinesOneByOne has the lines written out, as the document's words give them.
func TestP9LinesOneByOne(t *testing.T) {
	list := []struct{ bases, lines string }{
		{"", ""},
		{"-", "0"},
		{"- / -", "0 / 1"},
		{"- / 0 / 1 / 2", "0 / 1 0 / 2 1 0 / 3 2 1 0"},
		{"- / - / 0 1", "0 / 1 / 2 0 1"},
		{"- / - / 1 0", "0 / 1 / 2 1 0"},
		{"- / - / - / 1 2 0", "0 / 1 / 2 / 3 1 2 0"},
		{"- / 0 / 1 0", "0 / 1 0 / 2 1 0"},
		{"- / 0 / 1 0 / 2 0", "0 / 1 0 / 2 1 0 / 3 2 1 0"},
		{"- / 0 / 1 0 / 2 1 0", "0 / 1 0 / 2 1 0 / 3 2 1 0"},
		{"- / 0 / 0 / 1 2", "0 / 1 0 / 2 0 / 3 1 2 0"},
		{"- / 0 / 0 / 2 1", "0 / 1 0 / 2 0 / 3 2 1 0"},
		{"- / 0 / 0 / 0 / 2 3 1", "0 / 1 0 / 2 0 / 3 0 / 4 2 3 1 0"},
		{"- / 0 / - / 2 / 1 3", "0 / 1 0 / 2 / 3 2 / 4 1 0 3 2"},
		{"- / 0 / - / 2 / 3 1", "0 / 1 0 / 2 / 3 2 / 4 3 2 1 0"},
		{"- / 0 / 0 / 1 2 / 1 2 / 3 4", "0 / 1 0 / 2 0 / 3 1 2 0 / 4 1 2 0 / 5 3 4 1 2 0"},
		{"- / 0 / 0 / 1 2 / 0 / 3 4", "0 / 1 0 / 2 0 / 3 1 2 0 / 4 0 / 5 3 1 2 4 0"},
		{"- / 0 / 0 / 1 2 / 0 / 4 3", "0 / 1 0 / 2 0 / 3 1 2 0 / 4 0 / 5 4 3 1 2 0"},
		{"- / 0 / 0 / 0 / 3 1 / 3 2 / 5 4", "0 / 1 0 / 2 0 / 3 0 / 4 3 1 0 / 5 3 2 0 / 6 5 4 3 2 1 0"},
		{"- / 0 / 0 / 0 / 3 1 / 2 3 / 5 4", "0 / 1 0 / 2 0 / 3 0 / 4 3 1 0 / 5 2 3 0 / 6 5 2 4 3 1 0"},
		{"- / 0 / 0 / 0 / 0 / 0 / 1 2 3 / 4 2 5 / 4 1 / 6 7 8", "0 / 1 0 / 2 0 / 3 0 / 4 0 / 5 0 / 6 1 2 3 0 / 7 4 2 5 0 / 8 4 1 0 / 9 6 7 8 4 1 2 3 5 0"},
	}
	for _, c := range list {
		classes := classesOf(c.bases)
		lines, bad := impl.Mro(classes)
		if linesTold(lines) != c.lines || bad != -1 {
			t.Errorf("%s: %s and %d, not %s", c.bases, linesTold(lines), bad, c.lines)
		}
		wantRuleLines(t, classes)
		wantLineOrders(t, classes)
	}
}

// TestP9BasesAreMergedToo has bases that are ahead of one another in a line: a
// merge of the lines alone would tell another line, or one where there is none.
func TestP9BasesAreMergedToo(t *testing.T) {
	for bases, want := range map[string]string{
		"- / 0 / - / 1 2 0":         "0 / 1 0 / 2 / 3 1 2 0",
		"- / 0 / - / 1 0 2":         "0 / 1 0 / 2 / 3 1 0 2",
		"- / 0 / - / - / 1 3 2 0":   "0 / 1 0 / 2 / 3 / 4 1 3 2 0",
		"- / - / 0 1 / - / 2 3 1":   "0 / 1 / 2 0 1 / 3 / 4 2 0 3 1",
		"- / - / 0 1 / - / 2 3 0":   "0 / 1 / 2 0 1 / 3 / 4 2 3 0 1",
		"- / - / 0 1 / - / 2 3 0 1": "0 / 1 / 2 0 1 / 3 / 4 2 3 0 1",
	} {
		lines, bad := impl.Mro(classesOf(bases))
		if linesTold(lines) != want || bad != -1 {
			t.Errorf("%s: %s and %d, not %s", bases, linesTold(lines), bad, want)
		}
	}
	for _, bases := range []string{"- / 0 / 0 1", "- / 0 / 1 / 0 2", "- / 0 / - / 0 2 1", "- / - / 0 1 / 2 1 0"} {
		list := classesOf(bases)
		if lines, bad := impl.Mro(list); len(lines) != 0 || bad != int64(len(list)-1) {
			t.Errorf("%s: %s and %d", bases, linesTold(lines), bad)
		}
	}
}

func fitsTold(fits []bool) string {
	out := ""
	for _, fit := range fits {
		if fit {
			out += "y"
		} else {
			out += "n"
		}
	}
	return out
}

func TestP9LinesThatContradict(t *testing.T) {
	list := []struct {
		bases string
		first int64
		fits  string
	}{
		{"- / 0 / 0 1", 2, "yyn"},
		{"- / - / 0 1 / 1 0 / 2 3", 4, "yyyyn"},
		{"- / 0 / 0 / 1 2 / 2 1 / 3 4", 5, "yyyyyn"},
		{"- / 0 / 0 / 1 2 / 2 1 / 3 / 4 / 5 6", 7, "yyyyyyyn"},
		{"- / - / - / 0 1 / 1 2 / 2 0 / 3 4 5", 6, "yyyyyyn"},
		{"- / - / - / 0 1 / 1 2 / 2 0 / 3 4", -1, "yyyyyyy"},
		{"- / - / - / 0 1 / 1 2 / 2 0 / 4 5", -1, "yyyyyyy"},
		{"- / 0 / 0 1 / 2", 2, "yynn"},
		{"- / 0 / 0 1 / 2 / 3 / 4", 2, "yynnnn"},
		{"- / 0 / 0 1 / 1", 2, "yyny"},
		{"- / 0 / 0 1 / 0 1 / -", 2, "yynny"},
		{"- / 0 / 1 0 / 0 1 / 2 0 / 0 2 / 4", 3, "yyynyny"},
		{"- / 0 / 0 1 / - / 3 2 / 2 3 / 3 0", 2, "yynynny"},
		{"- / - / 0 1 / 1 0 / 2 3 / 3 2 / 4 5 / 2 / 3", 4, "yyyynnnyy"},
	}
	for _, c := range list {
		classes := classesOf(c.bases)
		lines, bad := impl.Mro(classes)
		if bad != c.first || (bad >= 0) != (len(lines) == 0) {
			t.Errorf("%s: %s and %d, not %d", c.bases, linesTold(lines), bad, c.first)
		}
		if fits := fitsTold(impl.MroFits(classes)); fits != c.fits {
			t.Errorf("%s: %s, not %s", c.bases, fits, c.fits)
		}
		wantRuleLines(t, classes)
		wantLineOrders(t, classes)
	}
}

// reached tells which classes are a class or above it, by way of the bases.
func reached(list []impl.Class, class int64) []bool {
	out := make([]bool, len(list))
	out[class] = true
	for place := class; place >= 0; place-- {
		for _, base := range list[place].Bases {
			out[base] = out[base] || out[place]
		}
	}
	return out
}

// areInOrder tells whether part, in its order, stands in line.
func areInOrder(line []int64, part []int64) bool {
	for _, x := range line {
		if len(part) > 0 && part[0] == x {
			part = part[1:]
		}
	}
	return len(part) == 0
}

// contradict tells whether no order keeps that of all lists: then some thing has
// to stand ahead of itself.
func contradict(n int, lists [][]int64) bool {
	ahead := make([][]bool, n)
	for i := range ahead {
		ahead[i] = make([]bool, n)
	}
	for _, list := range lists {
		for i := 1; i < len(list); i++ {
			ahead[list[i-1]][list[i]] = true
		}
	}
	for over := range n {
		for a := range n {
			for b := range n {
				ahead[a][b] = ahead[a][b] || ahead[a][over] && ahead[over][b]
			}
		}
	}
	for a := range n {
		if ahead[a][a] {
			return true
		}
	}
	return false
}

// wantLineOrders holds the answers against the promise alone, not against the
// way in which lines are made: each class once, the orders kept, and, where there
// is no line, bases that contradict one another.
func wantLineOrders(t *testing.T, list []impl.Class) {
	t.Helper()
	fits := impl.MroFits(list)
	if len(fits) != len(list) {
		t.Errorf("%s: %d classes, %v", basesTold(list), len(list), fits)
		return
	}
	// The lines of the others do not hang on the bases of those without one.
	mended := slices.Clone(list)
	for place, fit := range fits {
		if !fit {
			mended[place].Bases = nil
		}
	}
	lines, bad := impl.Mro(mended)
	if bad != -1 || len(lines) != len(list) {
		t.Errorf("%s: %d of %v", basesTold(list), bad, fits)
		return
	}
	for place, fit := range fits {
		if fit {
			wantLineOf(t, list, fits, lines, place)
		} else {
			wantContradiction(t, list, fits, lines, place)
		}
	}
}

func wantContradiction(t *testing.T, list []impl.Class, fits []bool, lines [][]int64, place int) {
	t.Helper()
	lists := [][]int64{list[place].Bases}
	for _, base := range list[place].Bases {
		if !fits[base] {
			return
		}
		lists = append(lists, lines[base])
	}
	if !contradict(place, lists) {
		t.Errorf("%s: the bases of %d, which has no line, can be put in order", basesTold(list), place)
	}
}

func wantLineOf(t *testing.T, list []impl.Class, fits []bool, lines [][]int64, place int) {
	t.Helper()
	line := lines[place]
	if len(line) == 0 || line[0] != int64(place) {
		t.Errorf("%s: the line of %d is %v", basesTold(list), place, line)
	}
	for other, there := range reached(list, int64(place)) {
		count := 0
		for _, x := range line {
			if x == int64(other) {
				count++
			}
		}
		if count > 1 || (count == 1) != there {
			t.Errorf("%s: the line of %d is %v: %d stands there %d times", basesTold(list), place, line, other, count)
		}
	}
	if !areInOrder(line, list[place].Bases) {
		t.Errorf("%s: the line of %d is %v: not in the order of its bases", basesTold(list), place, line)
	}
	for _, base := range list[place].Bases {
		if !fits[base] || !areInOrder(line, lines[base]) {
			t.Errorf("%s: the line of %d is %v: not in the order of %v", basesTold(list), place, line, lines[base])
		}
	}
}

// TestP9AllListsOfFewClasses has each list of up to five classes, and of those of
// six one in a row of 61.
func TestP9AllListsOfFewClasses(t *testing.T) {
	counts := map[string]int{}
	for n := range int64(6) {
		allClasses(n, func(list []impl.Class) {
			counts[wantRuleLines(t, list)]++
			wantLineOrders(t, list)
		})
	}
	if counts["lines"]+counts["without"] != 1+1+2+10+160+10400 || counts["without"] < 1000 || counts["lines"] < 1000 {
		t.Error(counts)
	}
	at := 0
	lasts := basesAhead(5)
	allClasses(5, func(list []impl.Class) {
		for ; at < len(lasts); at += 61 {
			six := append(slices.Clone(list), impl.Class{Bases: lasts[at]})
			wantRuleLines(t, six)
			wantLineOrders(t, six)
		}
		at -= len(lasts)
	})
}

func TestP9DrawnClasses(t *testing.T) {
	counts := inParallel(6000, func(i int) string {
		r := rand.New(rand.NewSource(int64(i)))
		list := drawnClasses(r, r.Intn(14), 1+r.Intn(4), i%2 == 0)
		wantLineOrders(t, list)
		return wantRuleLines(t, list)
	})
	if counts["lines"] < 1000 || counts["without"] < 1000 {
		t.Error(counts)
	}
	counts = inParallel(160, func(i int) string {
		r := rand.New(rand.NewSource(int64(i) + 9000))
		return wantRuleLines(t, drawnClasses(r, r.Intn(impl.MaxClasses+9), 2+i%3, i%4 > 0))
	})
	if counts["lines"] < 30 || counts["without"] < 50 || counts["wrong"] < 1 {
		t.Error(counts)
	}
}

// TestP9DrawnClassesWithLines has many classes, of which each keeps one base at
// most where those that were drawn for it contradict one another.
func TestP9DrawnClassesWithLines(t *testing.T) {
	counts := inParallel(60, func(i int) string {
		r := rand.New(rand.NewSource(int64(i) + 12000))
		list := []impl.Class{}
		for at := range 40 + r.Intn(impl.MaxClasses-39) {
			bases := drawnBases(r, at, 6, true)
			list = append(list, impl.Class{Bases: bases})
			if _, bad := impl.Mro(list); bad >= 0 {
				list[at].Bases = bases[:min(1, len(bases))]
			}
		}
		if i < 10 {
			wantLineOrders(t, list)
		}
		return wantRuleLines(t, list)
	})
	if counts["lines"] != 60 {
		t.Error(counts)
	}
}

// TestP9LongestLines has as many classes as there may be, with as many bases as
// they may have.
func TestP9LongestLines(t *testing.T) {
	row, all, ahead := []impl.Class{}, []impl.Class{}, []int64{}
	for at := range int64(impl.MaxClasses) {
		row = append(row, impl.Class{Bases: slices.Clone(ahead[:min(1, len(ahead))])})
		all = append(all, impl.Class{Bases: slices.Clone(ahead)})
		ahead = slices.Insert(ahead, 0, at)
	}
	up := slices.Clone(ahead[1:])
	slices.Reverse(up)
	turned := append(slices.Clone(row[:impl.MaxClasses-1]), impl.Class{Bases: up})
	roots := append(make([]impl.Class, impl.MaxClasses-1), impl.Class{Bases: up})
	for _, list := range [][]impl.Class{row, all} {
		lines, bad := impl.Mro(list)
		if bad != -1 || len(lines) != impl.MaxClasses {
			t.Fatal(len(lines), bad)
		}
		for place, line := range lines {
			if !slices.Equal(line, ahead[len(ahead)-1-place:]) {
				t.Fatal(place, line)
			}
		}
	}
	lines, bad := impl.Mro(roots)
	if bad != -1 || !slices.Equal(lines[199], append([]int64{199}, up...)) || !slices.Equal(lines[198], []int64{198}) {
		t.Error("as many bases:", bad)
	}
	if lines, bad := impl.Mro(turned); bad != 199 || len(lines) != 0 {
		t.Error("bases against their line:", bad)
	}
	for _, list := range [][]impl.Class{row, all, roots, turned} {
		more := append(slices.Clone(list), impl.Class{})
		if lines, bad := impl.Mro(more); len(lines) != 0 || bad != -2 {
			t.Error("a class too many:", len(lines), bad)
		}
		if fits := impl.MroFits(more); len(fits) != 0 {
			t.Error("a class too many:", fits)
		}
	}
}
