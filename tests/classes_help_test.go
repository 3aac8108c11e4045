package tests

import (
	"math/rand"
	"slices"
	"strconv"
	"strings"
	"testing"

	"loop.example/g00009/impl"
)

// numbersIn reads numbers with blanks between; "-" is none.
func numbersIn(s string) []int64 {
	out := []int64{}
	for _, word := range strings.Fields(s) {
		if word == "-" {
			continue
		}
		n, err := strconv.ParseInt(word, 10, 64)
		if err != nil {
			panic(err)
		}
		out = append(out, n)
	}
	return out
}

// classesOf reads the bases of each class: "- / 0 / 1 0".
func classesOf(s string) []impl.Class {
	out := []impl.Class{}
	if s == "" {
		return out
	}
	for _, row := range strings.Split(s, "/") {
		out = append(out, impl.Class{Bases: numbersIn(row)})
	}
	return out
}

// linesTold is the opposite of classesOf, for lines; of no line "none".
func linesTold(lines [][]int64) string {
	rows := []string{}
	for _, line := range lines {
		row := []string{}
		for _, n := range line {
			row = append(row, strconv.FormatInt(n, 10))
		}
		if len(row) == 0 {
			row = []string{"none"}
		}
		rows = append(rows, strings.Join(row, " "))
	}
	return strings.Join(rows, " / ")
}

func basesTold(list []impl.Class) string {
	rows := []string{}
	for _, c := range list {
		rows = append(rows, strings.ReplaceAll(linesTold([][]int64{c.Bases}), "none", "-"))
	}
	return strings.Join(rows, " / ")
}

// classesOkByRule says the first words of chapter 9 thing by thing.
func classesOkByRule(list []impl.Class) bool {
	for at, c := range list {
		for i, base := range c.Bases {
			if base < 0 || base >= int64(at) || slices.Contains(c.Bases[:i], base) {
				return false
			}
		}
		for i, a := range c.Attrs {
			if a.Kind != 0 && a.Kind != 1 && a.Kind != 2 || hasName(c.Attrs[:i], a.Name) {
				return false
			}
		}
		if len(c.Attrs) > 100 {
			return false
		}
	}
	return len(list) <= 200
}

func hasName(attrs []impl.Attr, name string) bool {
	return slices.ContainsFunc(attrs, func(a impl.Attr) bool { return a.Name == name })
}

// linesByRule tells each class's line as chapter 9 says it; nil where there is none.
func linesByRule(list []impl.Class) [][]int64 {
	lines := [][]int64{}
	for at, c := range list {
		lists := [][]int64{}
		fits := true
		for _, base := range c.Bases {
			fits = fits && lines[base] != nil
			lists = append(lists, lines[base])
		}
		if !fits {
			lines = append(lines, nil)
			continue
		}
		lines = append(lines, mergeLinesByRule([]int64{int64(at)}, append(lists, c.Bases)))
	}
	return lines
}

// mergeLinesByRule puts the merge of the lists behind line; nil where none can be
// taken though some are left.
func mergeLinesByRule(line []int64, lists [][]int64) []int64 {
	for {
		left := [][]int64{}
		for _, l := range lists {
			if len(l) > 0 {
				left = append(left, l)
			}
		}
		if len(left) == 0 {
			return line
		}
		at := slices.IndexFunc(left, func(l []int64) bool {
			return !slices.ContainsFunc(left, func(other []int64) bool { return slices.Contains(other[1:], l[0]) })
		})
		if at < 0 {
			return nil
		}
		head := left[at][0]
		line = append(line, head)
		lists = [][]int64{}
		for _, l := range left {
			lists = append(lists, slices.DeleteFunc(slices.Clone(l), func(x int64) bool { return x == head }))
		}
	}
}

// attrByRule is what AttrGet and AttrSet have to answer.
func attrByRule(list []impl.Class, class int64, own []impl.Attr, name string) (int64, int64, int64) {
	if !classesOkByRule(list) || class < 0 || class >= int64(len(list)) || len(own) > 100 {
		return -1, 0, -1
	}
	for i, a := range own {
		if hasName(own[:i], a.Name) {
			return -1, 0, -1
		}
	}
	line := linesByRule(list)[class]
	if line == nil {
		return -1, 0, -1
	}
	inLine := []impl.Attr{}
	for _, place := range line {
		inLine = append(inLine, list[place].Attrs...)
	}
	unlike := func(a impl.Attr) bool { return a.Name != name }
	inLine = slices.DeleteFunc(inLine, unlike)
	mine := slices.DeleteFunc(slices.Clone(own), unlike)
	switch {
	case len(inLine) > 0 && inLine[0].Kind == 1:
		return 3, inLine[0].Val, 2
	case len(mine) > 0:
		return 1, mine[0].Val, 1
	case len(inLine) > 0 && inLine[0].Kind == 2:
		return 3, inLine[0].Val, 1
	case len(inLine) > 0:
		return 2, inLine[0].Val, 1
	}
	return 0, 0, 1
}

// wantRuleLines holds the functions that tell lines against the rules, and says
// what kind of list it was.
func wantRuleLines(t *testing.T, list []impl.Class) string {
	t.Helper()
	ok := impl.ClassesOk(list)
	lines, bad := impl.Mro(list)
	fits := impl.MroFits(list)
	if ok != classesOkByRule(list) {
		t.Errorf("ClassesOk: %v: %s", ok, basesTold(list))
	}
	if !classesOkByRule(list) {
		if len(lines) != 0 || bad != -2 || len(fits) != 0 {
			t.Errorf("of what is no list of classes: %v %d %v", lines, bad, fits)
		}
		return "wrong"
	}
	want := linesByRule(list)
	first := slices.IndexFunc(want, func(line []int64) bool { return line == nil })
	wantFits := []bool{}
	for _, line := range want {
		wantFits = append(wantFits, line != nil)
	}
	if !slices.Equal(fits, wantFits) {
		t.Errorf("MroFits of %s: %v, not %v", basesTold(list), fits, wantFits)
	}
	if first >= 0 {
		if len(lines) != 0 || bad != int64(first) {
			t.Errorf("Mro of %s: %v %d, not no lines and %d", basesTold(list), lines, bad, first)
		}
		return "without"
	}
	if bad != -1 || !slices.EqualFunc(lines, want, slices.Equal[[]int64]) {
		t.Errorf("Mro of %s: %s and %d, not %s", basesTold(list), linesTold(lines), bad, linesTold(want))
	}
	return "lines"
}

func wantAttr(t *testing.T, list []impl.Class, class int64, own []impl.Attr, name string, how int64, val int64, set int64) {
	t.Helper()
	gotHow, gotVal := impl.AttrGet(list, class, own, name)
	gotSet := impl.AttrSet(list, class, own, name)
	if gotHow != how || gotVal != val || gotSet != set {
		t.Errorf("%q of class %d of %s, own %v: %d %d and %d, not %d %d and %d", name, class, attrsTold(list), own, gotHow, gotVal, gotSet, how, val, set)
	}
}

func attrsTold(list []impl.Class) string {
	rows := []string{}
	for _, c := range list {
		row := basesTold([]impl.Class{c})
		for _, a := range c.Attrs {
			row += " " + strconv.Quote(a.Name) + ":" + strconv.FormatInt(a.Kind, 10) + ":" + strconv.FormatInt(a.Val, 10)
		}
		rows = append(rows, row)
	}
	return strings.Join(rows, " / ")
}

func wantRuleAttr(t *testing.T, list []impl.Class, class int64, own []impl.Attr, name string) int64 {
	t.Helper()
	how, val, set := attrByRule(list, class, own, name)
	wantAttr(t, list, class, own, name, how, val, set)
	return how
}

// drawnBases draws up to most unlike places ahead of at; by order they are put
// from the last on, so that fewer of them contradict one another.
func drawnBases(r *rand.Rand, at int, most int, byOrder bool) []int64 {
	all := r.Perm(at)
	bases := []int64{}
	for _, n := range all[:min(at, r.Intn(most+1))] {
		bases = append(bases, int64(n))
	}
	if byOrder {
		slices.Sort(bases)
		slices.Reverse(bases)
	}
	return bases
}

func drawnClasses(r *rand.Rand, n int, most int, byOrder bool) []impl.Class {
	list := []impl.Class{}
	for at := range n {
		list = append(list, impl.Class{Bases: drawnBases(r, at, most, byOrder), Attrs: drawnAttrs(r, 3)})
	}
	return list
}

// drawnAttrs draws Attrs of few Names, which are alike in other lists.
func drawnAttrs(r *rand.Rand, kinds int) []impl.Attr {
	names := attrNames()
	attrs := []impl.Attr{}
	for _, n := range r.Perm(len(names))[:r.Intn(4)] {
		attrs = append(attrs, impl.Attr{Name: names[n], Kind: int64(r.Intn(kinds)), Val: int64(r.Intn(19) - 9)})
	}
	return attrs
}

func attrNames() []string { return []string{"a", "b", "ab", "A", "", "\xff"} }

func copyClasses(list []impl.Class) []impl.Class {
	out := []impl.Class{}
	for _, c := range list {
		out = append(out, impl.Class{Bases: slices.Clone(c.Bases), Attrs: slices.Clone(c.Attrs)})
	}
	return out
}

// basesAhead tells every row of unlike places ahead of at.
func basesAhead(at int64) [][]int64 {
	out := [][]int64{}
	var more func(row []int64)
	more = func(row []int64) {
		out = append(out, slices.Clone(row))
		for n := range at {
			if !slices.Contains(row, n) {
				more(append(slices.Clone(row), n))
			}
		}
	}
	more([]int64{})
	return out
}

// allClasses calls f with every list of n classes.
func allClasses(n int64, f func(list []impl.Class)) {
	var more func(list []impl.Class)
	more = func(list []impl.Class) {
		if int64(len(list)) == n {
			f(list)
			return
		}
		for _, bases := range basesAhead(int64(len(list))) {
			more(append(slices.Clone(list), impl.Class{Bases: bases}))
		}
	}
	more([]impl.Class{})
}
