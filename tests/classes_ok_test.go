package tests

import (
	"math"
	"math/rand"
	"slices"
	"strconv"
	"strings"
	"testing"

	"loop.example/g00009/impl"
)

// fourClasses is a list in which each thing can be changed.
func fourClasses() []impl.Class {
	return []impl.Class{
		{},
		{Bases: []int64{0}, Attrs: []impl.Attr{{Name: "a", Kind: impl.AtGet, Val: 5}}},
		{Bases: []int64{0}},
		{Bases: []int64{2, 1}, Attrs: []impl.Attr{{Name: "a", Kind: impl.AtPlain, Val: 1}, {Name: "b", Kind: impl.AtData, Val: 2}, {Name: "c", Kind: impl.AtGet, Val: 3}}},
	}
}

// wantClasses has ok alone written out; with it go what Mro, MroFits, AttrGet and
// AttrSet answer of a list that is none.
func wantClasses(t *testing.T, list []impl.Class, ok bool, what string) {
	t.Helper()
	if impl.ClassesOk(list) != ok {
		t.Errorf("%s: ClassesOk is %v", what, !ok)
	}
	lines, bad := impl.Mro(list)
	fits := impl.MroFits(list)
	if !ok && (len(lines) != 0 || bad != -2 || len(fits) != 0) {
		t.Errorf("%s: %d lines, %d, %v", what, len(lines), bad, fits)
	}
	if ok && (bad == -2 || len(fits) != len(list)) {
		t.Errorf("%s: %d, %d of %d fit", what, bad, len(fits), len(list))
	}
	for place := range int64(min(len(list), 9)) {
		how, val := impl.AttrGet(list, place, nil, "b")
		set := impl.AttrSet(list, place, nil, "b")
		if !ok && (how != impl.GotArgs || val != 0 || set != impl.GotArgs) || ok && (how == impl.GotArgs || set == impl.GotArgs) {
			t.Errorf("%s: %d %d and %d at place %d", what, how, val, set, place)
		}
	}
}

func TestP9ClassesWithBasesChanged(t *testing.T) {
	wantClasses(t, nil, true, "no list")
	wantClasses(t, []impl.Class{}, true, "an empty list")
	wantClasses(t, []impl.Class{{}}, true, "a class of nothing")
	wantClasses(t, []impl.Class{{Bases: []int64{}, Attrs: []impl.Attr{}}}, true, "a class of empty lists")
	wantClasses(t, fourClasses(), true, "four classes")
	for _, c := range []struct {
		place int
		bases string
		ok    bool
	}{
		{0, "-", true}, {0, "0", false}, {0, "1", false}, {0, "-1", false}, {0, "3", false}, {0, "4", false},
		{1, "-", true}, {1, "0", true}, {1, "1", false}, {1, "2", false}, {1, "3", false}, {1, "4", false}, {1, "-1", false}, {1, "0 0", false}, {1, "0 1", false}, {1, "0 -1", false},
		{2, "1 0", true}, {2, "1", true}, {2, "1 1", false}, {2, "2", false}, {2, "1 0 2", false}, {2, "3", false},
		{3, "2", true}, {3, "2 1 0", true}, {3, "1 2 0", true}, {3, "1 2", true}, {3, "2 1 2", false}, {3, "2 2 1", false}, {3, "2 1 1", false},
		{3, "3", false}, {3, "2 1 3", false}, {3, "3 2 1", false}, {3, "4", false}, {3, "2 4", false}, {3, "-1 2 1", false}, {3, "2 -1", false},
		{3, "9223372036854775807", false}, {3, "-9223372036854775808", false}, {3, "4294967296", false}, {3, "256", false}, {3, "2 4294967297", false},
	} {
		list := fourClasses()
		list[c.place].Bases = numbersIn(c.bases)
		wantClasses(t, list, c.ok, "class "+strconv.Itoa(c.place)+" with the bases "+c.bases)
	}
	list := fourClasses()
	list[3].Bases = slices.Repeat([]int64{2, 1}, 100000)
	wantClasses(t, list, false, "bases again and again")
	wantClasses(t, fourClasses()[1:], false, "without its first class")
}

func TestP9ClassesWithAttrsChanged(t *testing.T) {
	for _, c := range []struct {
		names []string
		ok    bool
	}{
		{nil, true}, {[]string{""}, true}, {[]string{"", "a"}, true}, {[]string{"", ""}, false}, {[]string{"a", "a"}, false},
		{[]string{"a", "b", "a"}, false}, {[]string{"a", "b", "b"}, false}, {[]string{"a", "A"}, true}, {[]string{"a", "aa"}, true}, {[]string{"a", "a "}, true},
		{[]string{"abc", "abd"}, true}, {[]string{"abc", "bbc"}, true}, {[]string{"a\x00", "a"}, true}, {[]string{"a\x00", "a\x00"}, false},
		{[]string{"\xff"}, true}, {[]string{"\xff", "\xfe"}, true}, {[]string{"\xff", "\xff"}, false}, {[]string{"\xff", "\ufffd"}, true}, {[]string{"\xed\xa0\x80", "\xc0\x80"}, true},
		{[]string{"é", "e\u0301"}, true}, {[]string{"if", "1", "a b", "\n"}, true},
		{[]string{strings.Repeat("a", 16384), strings.Repeat("a", 16385), strings.Repeat("a", 16384) + "b"}, true},
		{[]string{strings.Repeat("a", 16385), strings.Repeat("a", 16385)}, false},
	} {
		for place := range 4 {
			list := fourClasses()
			list[place].Attrs = nil
			for i, name := range c.names {
				list[place].Attrs = append(list[place].Attrs, impl.Attr{Name: strings.Clone(name), Kind: int64(i % 3), Val: int64(i)})
			}
			wantClasses(t, list, c.ok, "class "+strconv.Itoa(place)+" with the names "+shown(strings.Join(c.names, ", ")))
		}
	}
	for _, c := range []struct {
		kind int64
		ok   bool
	}{
		{math.MinInt64, false}, {-4294967296, false}, {-256, false}, {-2, false}, {-1, false}, {0, true}, {1, true}, {2, true}, {3, false}, {4, false}, {256, false}, {4294967296, false}, {math.MaxInt64, false},
	} {
		for i := range 3 {
			list := fourClasses()
			list[3].Attrs[i].Kind = c.kind
			wantClasses(t, list, c.ok, "an Attr of the kind "+strconv.FormatInt(c.kind, 10))
		}
	}
	for _, val := range []int64{math.MinInt64, -1, 0, math.MaxInt64} {
		list := fourClasses()
		list[3].Attrs[1].Val = val
		wantClasses(t, list, true, "an Attr with the value "+strconv.FormatInt(val, 10))
	}
}

// manyAttrs are n Attrs of unlike Names: n0, n1 ..
func manyAttrs(n int) []impl.Attr {
	out := []impl.Attr{}
	for i := range n {
		out = append(out, impl.Attr{Name: "n" + strconv.Itoa(i), Kind: int64(i % 3), Val: int64(i)})
	}
	return out
}

func TestP9ClassLimits(t *testing.T) {
	for _, n := range []int{199, 200, 201, 202, 1000, 100000} {
		list := make([]impl.Class, n)
		wantClasses(t, list, n <= 200, strconv.Itoa(n)+" classes")
		for at := range list {
			list[at].Bases = numbersIn("-")
			if at > 0 {
				list[at].Bases = []int64{int64(at) - 1}
			}
		}
		wantClasses(t, list, n <= 200, strconv.Itoa(n)+" classes in a row")
	}
	for _, n := range []int{99, 100, 101, 102, 100000} {
		for place := range 4 {
			list := fourClasses()
			list[place].Attrs = manyAttrs(n)
			wantClasses(t, list, n <= 100, strconv.Itoa(n)+" Attrs of class "+strconv.Itoa(place))
			if n > 1 && n <= 102 {
				list[place].Attrs[n-1].Name = "n0"
				wantClasses(t, list, false, strconv.Itoa(n)+" Attrs, the last as the first")
			}
		}
	}
	list := make([]impl.Class, 200)
	for at := range list {
		list[at].Attrs = manyAttrs(100)
	}
	wantClasses(t, list, true, "as many as may be, each with as many Attrs")
	list[199].Attrs[99].Kind = 3
	wantClasses(t, list, false, "the last Attr of the last class of no kind")
	list[199].Attrs = manyAttrs(101)
	wantClasses(t, list, false, "an Attr too many in the last class")
}

// changeClasses changes one thing of a list.
func changeClasses(r *rand.Rand, list []impl.Class) {
	if len(list) == 0 {
		return
	}
	at := r.Intn(len(list))
	c := &list[at]
	switch r.Intn(5) {
	case 0:
		c.Bases = append(c.Bases, int64(r.Intn(len(list)+3)-1))
	case 1:
		if len(c.Bases) > 0 {
			c.Bases[r.Intn(len(c.Bases))] = int64(r.Intn(len(list)+3) - 1)
		}
	case 2:
		if len(c.Bases) > 0 {
			c.Bases = append(c.Bases, c.Bases[r.Intn(len(c.Bases))])
		}
	case 3:
		names := attrNames()
		c.Attrs = append(c.Attrs, impl.Attr{Name: names[r.Intn(len(names))], Kind: int64(r.Intn(3))})
	case 4:
		if len(c.Attrs) > 0 {
			c.Attrs[r.Intn(len(c.Attrs))].Kind = int64(r.Intn(6) - 2)
		}
	}
}

func TestP9ChangedClasses(t *testing.T) {
	counts := inParallel(12000, func(i int) string {
		r := rand.New(rand.NewSource(int64(i) + 500))
		list := drawnClasses(r, r.Intn(7), 3, true)
		changeClasses(r, list)
		if i%3 == 0 {
			changeClasses(r, list)
		}
		for class := range int64(len(list)) {
			wantRuleAttr(t, list, class, nil, "a")
		}
		return wantRuleLines(t, list)
	})
	if counts["lines"] < 2000 || counts["wrong"] < 2000 || counts["without"] < 30 {
		t.Error(counts)
	}
}
