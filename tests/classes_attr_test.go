package tests

import (
	"math"
	"math/rand"
	"slices"
	"strconv"
	"strings"
	"testing"

	"loop.example/g00009/impl"
)

func named(name string, kind int64, val int64) []impl.Attr {
	return []impl.Attr{{Name: name, Kind: kind, Val: val}}
}

// rowWith is 0, 1 below it, 2 below that, with the Attrs at one place.
func rowWith(place int, attrs []impl.Attr) []impl.Class {
	list := classesOf("- / 0 / 1")
	list[place].Attrs = attrs
	return list
}

// TestP9AttrsOfEachKind has what is answered written out, with the Attr in the
// class itself and in those above it.
func TestP9AttrsOfEachKind(t *testing.T) {
	for place := range 3 {
		for _, c := range []struct {
			kind          int64
			how, val, set int64
			withOwn       int64
			withOwnVal    int64
		}{
			{impl.AtPlain, impl.GotPlain, 5, impl.SetOwn, impl.GotOwn, 7},
			{impl.AtData, impl.GotAsked, 5, impl.SetAsked, impl.GotAsked, 5},
			{impl.AtGet, impl.GotAsked, 5, impl.SetOwn, impl.GotOwn, 7},
		} {
			list := rowWith(place, named("a", c.kind, 5))
			for _, own := range [][]impl.Attr{nil, {}, named("b", 0, 9), named("", 1, 9), {{Name: "b"}, {Name: "A"}, {Name: "aa"}}} {
				wantAttr(t, list, 2, own, "a", c.how, c.val, c.set)
			}
			for _, kind := range []int64{0, 1, 2, 3, -1, 99, math.MinInt64, math.MaxInt64} {
				wantAttr(t, list, 2, named("a", kind, 7), "a", c.withOwn, c.withOwnVal, c.set)
				wantAttr(t, list, 2, append(named("b", 1, 9), named("a", kind, 7)...), "a", c.withOwn, c.withOwnVal, c.set)
			}
			for above := range int64(place) {
				wantAttr(t, list, above, nil, "a", impl.GotNone, 0, impl.SetOwn)
				wantAttr(t, list, above, named("a", 1, 7), "a", impl.GotOwn, 7, impl.SetOwn)
			}
		}
	}
	none := classesOf("- / 0 / 1")
	wantAttr(t, none, 2, nil, "a", impl.GotNone, 0, impl.SetOwn)
	wantAttr(t, none, 2, named("b", 1, 4), "a", impl.GotNone, 0, impl.SetOwn)
	wantAttr(t, none, 2, named("a", 1, 4), "a", impl.GotOwn, 4, impl.SetOwn)
}

func TestP9AttrsOfTwoClasses(t *testing.T) {
	told := func(kind int64, val int64) (int64, int64, int64) {
		switch kind {
		case impl.AtPlain:
			return impl.GotPlain, val, impl.SetOwn
		case impl.AtData:
			return impl.GotAsked, val, impl.SetAsked
		}
		return impl.GotAsked, val, impl.SetOwn
	}
	for _, shape := range []struct {
		bases string
		first int
		other int
	}{
		{"- / - / 0 1", 0, 1},
		{"- / - / 1 0", 1, 0},
		{"- / 0 / 1", 1, 0},
		{"- / 0 / 1", 2, 1},
		{"- / 0 / 1", 2, 0},
		{"- / 0 / 0 / 1 2", 1, 2},
		{"- / 0 / 0 / 1 2", 2, 0},
		{"- / 0 / 0 / 2 1", 2, 1},
		{"- / 0 / 0 / 2 1", 1, 0},
		{"- / 0 / - / 1 2 0", 2, 0},
		{"- / 0 / - / 2 / 1 3", 0, 3},
	} {
		for first := range int64(3) {
			for other := range int64(3) {
				list := classesOf(shape.bases)
				list[shape.first].Attrs = append(named("b", 1, 1), named("a", first, 10)...)
				list[shape.other].Attrs = append(named("c", 2, 2), named("a", other, 20)...)
				class := int64(len(list) - 1)
				how, val, set := told(first, 10)
				wantAttr(t, list, class, nil, "a", how, val, set)
				if first != impl.AtData {
					how, val = impl.GotOwn, 30
				}
				wantAttr(t, list, class, named("a", 0, 30), "a", how, val, set)
			}
		}
	}
}

// TestP9AttrsOfZeros has Attrs in which nothing but the place tells that they are there.
func TestP9AttrsOfZeros(t *testing.T) {
	list := []impl.Class{{Attrs: named("", 2, 9)}, {Bases: []int64{0}, Attrs: make([]impl.Attr, 1)}, {Bases: []int64{0}}}
	wantAttr(t, list, 1, nil, "", impl.GotPlain, 0, impl.SetOwn)
	wantAttr(t, list, 2, nil, "", impl.GotAsked, 9, impl.SetOwn)
	wantAttr(t, list, 2, make([]impl.Attr, 1), "", impl.GotOwn, 0, impl.SetOwn)
	wantAttr(t, list, 0, named("a", 0, 1), "", impl.GotAsked, 9, impl.SetOwn)
	for _, val := range []int64{math.MinInt64, -1, 0, 1, math.MaxInt64} {
		for kind, how := range []int64{impl.GotPlain, impl.GotAsked, impl.GotAsked} {
			list := rowWith(1, named("a", int64(kind), val))
			wantAttr(t, list, 2, nil, "a", how, val, int64(1+kind%2))
		}
		wantAttr(t, rowWith(1, nil), 2, named("a", 0, val), "a", impl.GotOwn, val, impl.SetOwn)
	}
}

func TestP9AttrNames(t *testing.T) {
	names := []string{"", "a", "b", "A", "aa", "a ", " a", "a\x00", "\x00", "é", "e\u0301", "\xff", "\xfe", "\ufffd", "\xed\xa0\x80", "if", strings.Repeat("a", 16384), strings.Repeat("a", 16385), strings.Repeat("a", 16384) + "b"}
	attrs := []impl.Attr{}
	for i, name := range names {
		attrs = append(attrs, impl.Attr{Name: name, Kind: impl.AtData, Val: int64(i)})
	}
	for i, name := range names {
		for place := range 3 {
			wantAttr(t, rowWith(place, attrs), 2, nil, strings.Clone(name), impl.GotAsked, int64(i), impl.SetAsked)
			without := slices.Delete(slices.Clone(attrs), i, i+1)
			wantAttr(t, rowWith(place, without), 2, without, name, impl.GotNone, 0, impl.SetOwn)
			wantAttr(t, rowWith(place, without), 2, attrs, name, impl.GotOwn, int64(i), impl.SetOwn)
		}
	}
}

func TestP9AttrsOfNoPlace(t *testing.T) {
	list := fourClasses()
	for _, class := range []int64{math.MinInt64, math.MinInt64 + 1, -4294967296, -4, -3, -1, 4, 5, 200, 256, 4294967296, 4294967297, math.MaxInt64 - 1, math.MaxInt64} {
		wantAttr(t, list, class, nil, "a", impl.GotArgs, 0, impl.GotArgs)
		wantAttr(t, list, class, named("a", 0, 5), "a", impl.GotArgs, 0, impl.GotArgs)
	}
	for _, class := range []int64{-1, 0, 1} {
		wantAttr(t, nil, class, nil, "a", impl.GotArgs, 0, impl.GotArgs)
		wantAttr(t, []impl.Class{}, class, named("a", 0, 5), "a", impl.GotArgs, 0, impl.GotArgs)
	}
	full := make([]impl.Class, 200)
	full[199].Attrs = named("a", 2, 4)
	wantAttr(t, full, 199, nil, "a", impl.GotAsked, 4, impl.SetOwn)
	wantAttr(t, full, 200, nil, "a", impl.GotArgs, 0, impl.GotArgs)
	wantAttr(t, make([]impl.Class, 201), 0, nil, "a", impl.GotArgs, 0, impl.GotArgs)
}

func TestP9AttrsWithWrongOwn(t *testing.T) {
	list := rowWith(0, named("a", impl.AtData, 5))
	for _, own := range [][]impl.Attr{
		{{Name: "a"}, {Name: "a"}},
		{{Name: "a", Kind: 0, Val: 1}, {Name: "a", Kind: 1, Val: 2}},
		{{Name: "b"}, {Name: "b"}},
		{{}, {}},
		{{Name: "a"}, {Name: "b"}, {Name: "c"}, {Name: "b"}},
		{{Name: "\xff"}, {Name: "\xff"}},
		append(manyAttrs(99), impl.Attr{Name: "n0"}),
		append(manyAttrs(99), impl.Attr{Name: "n98"}),
		manyAttrs(101), manyAttrs(102), manyAttrs(10000), make([]impl.Attr, 101), slices.Repeat(named("a", 0, 0), 100000),
	} {
		for _, name := range []string{"a", "b", "n0", "n100", "q"} {
			for class := range int64(3) {
				wantAttr(t, list, class, own, name, impl.GotArgs, 0, impl.GotArgs)
			}
		}
	}
	for _, n := range []int{0, 1, 99, 100} {
		own := manyAttrs(n)
		wantAttr(t, list, 2, own, "a", impl.GotAsked, 5, impl.SetAsked)
		wantAttr(t, list, 2, own, "n100", impl.GotNone, 0, impl.SetOwn)
		for i := range n {
			wantAttr(t, list, 2, own, "n"+strconv.Itoa(i), impl.GotOwn, int64(i), impl.SetOwn)
		}
	}
	full := rowWith(1, manyAttrs(100))
	hows := []int64{impl.GotPlain, impl.GotAsked, impl.GotAsked}
	for i := range 100 {
		wantAttr(t, full, 2, nil, "n"+strconv.Itoa(i), hows[i%3], int64(i), 1+int64(i%3%2))
	}
}

// TestP9AttrsOfClassesWithoutALine has classes with a line ahead of and behind
// ones without.
func TestP9AttrsOfClassesWithoutALine(t *testing.T) {
	list := classesOf("- / 0 / 0 1 / 2 / 1 / 4 2 / 4 0 / -")
	for i := range list {
		list[i].Attrs = named("a", impl.AtPlain, int64(10+i))
	}
	list[0].Attrs = append(list[0].Attrs, impl.Attr{Name: "z", Kind: impl.AtData, Val: 6})
	for class, fits := range []bool{true, true, false, false, true, false, true, true} {
		at := int64(class)
		if !fits {
			wantAttr(t, list, at, nil, "a", impl.GotArgs, 0, impl.GotArgs)
			wantAttr(t, list, at, nil, "z", impl.GotArgs, 0, impl.GotArgs)
			wantAttr(t, list, at, nil, "none", impl.GotArgs, 0, impl.GotArgs)
			wantAttr(t, list, at, named("a", 0, 3), "a", impl.GotArgs, 0, impl.GotArgs)
			continue
		}
		wantAttr(t, list, at, nil, "a", impl.GotPlain, 10+at, impl.SetOwn)
		wantAttr(t, list, at, named("a", 0, 3), "a", impl.GotOwn, 3, impl.SetOwn)
		if class < 7 {
			wantAttr(t, list, at, nil, "z", impl.GotAsked, 6, impl.SetAsked)
		} else {
			wantAttr(t, list, at, nil, "z", impl.GotNone, 0, impl.SetOwn)
		}
	}
}

// TestP9AttrsOfAllListsOfFewClasses has one Name, in each class of each Kind or
// not at all, and with and without one of that Name of the instance's own.
func TestP9AttrsOfAllListsOfFewClasses(t *testing.T) {
	for n := int64(1); n <= 4; n++ {
		allClasses(n, func(list []impl.Class) {
			lists(4, int(n), func(kinds []int64) {
				for at, kind := range kinds {
					list[at].Attrs = nil
					if kind < 3 {
						list[at].Attrs = named("a", kind, int64(at+1))
					}
				}
				for class := range n {
					wantRuleAttr(t, list, class, nil, "a")
					wantRuleAttr(t, list, class, named("a", 3, 9), "a")
				}
			})
		})
	}
}

func TestP9DrawnAttrs(t *testing.T) {
	counts := inParallel(3000, func(i int) string {
		r := rand.New(rand.NewSource(int64(i) + 70000))
		list := drawnClasses(r, 1+r.Intn(12), 3, i%3 > 0)
		own := drawnAttrs(r, 6)
		if i%10 == 0 && len(own) > 1 {
			own[0].Name = own[1].Name
		}
		word := ""
		for class := range int64(len(list)) + 1 {
			for _, name := range append(attrNames(), "q") {
				word += strconv.FormatInt(wantRuleAttr(t, list, class, own, name), 10)
			}
		}
		return map[bool]string{true: "all", false: "some"}[strings.Contains(word, "0") && strings.Contains(word, "1") && strings.Contains(word, "2") && strings.Contains(word, "3")]
	})
	if counts["all"] < 500 {
		t.Error(counts)
	}
}
