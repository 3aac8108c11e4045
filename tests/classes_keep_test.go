package tests

import (
	"math/rand"
	"slices"
	"testing"

	"loop.example/g00009/impl"
)

var spareAttr = impl.Attr{Name: "spare", Kind: 98, Val: 97}

// sparedClasses has filled spare room behind each list of it.
func sparedClasses(list []impl.Class) []impl.Class {
	out := []impl.Class{}
	for _, c := range list {
		out = append(out, impl.Class{Bases: spared(c.Bases, 96), Attrs: spared(c.Attrs, spareAttr)})
	}
	return spared(out, impl.Class{Bases: []int64{95}, Attrs: []impl.Attr{spareAttr}})
}

func isSparedClasses(got []impl.Class, list []impl.Class) bool {
	for i, c := range got {
		if !isSpared(c.Bases, list[i].Bases, 96) || !isSpared(c.Attrs, list[i].Attrs, spareAttr) {
			return false
		}
	}
	for _, c := range got[:cap(got)][len(got):][:3] {
		if !slices.Equal(c.Bases, []int64{95}) || !slices.Equal(c.Attrs, []impl.Attr{spareAttr}) {
			return false
		}
	}
	return len(got) == len(list)
}

// keepClasses are lists with and without lines, and ones that are none.
func keepClasses() [][]impl.Class {
	out := [][]impl.Class{nil, fourClasses(), make([]impl.Class, 200), make([]impl.Class, 201)}
	for _, bases := range []string{"-", "- / 0", "- / 0 / 0 / 1 2", "- / 0 / 0 / 1 2 / 1 2 / 3 4", "- / 0 / 0 1 / 2 / 1", "0", "- / 0 0", "- / -1"} {
		out = append(out, classesOf(bases))
	}
	for i := range 250 {
		r := rand.New(rand.NewSource(int64(i) + 31000))
		list := drawnClasses(r, r.Intn(20), 3, i%4 > 0)
		if i%5 == 0 {
			changeClasses(r, list)
		}
		out = append(out, list)
	}
	return out
}

func keepOwns() [][]impl.Attr {
	out := [][]impl.Attr{nil, named("a", 0, 4), {{Name: "a"}, {Name: "a"}}, manyAttrs(100), manyAttrs(101)}
	for i := range 4 {
		out = append(out, drawnAttrs(rand.New(rand.NewSource(int64(i)+32000)), 6))
	}
	return out
}

// classAnswer is what all the functions answer for a list.
type classAnswer struct {
	ok    bool
	lines [][]int64
	bad   int64
	fits  []bool
	attrs []int64
}

func classAnswers(list []impl.Class, own []impl.Attr) classAnswer {
	a := classAnswer{ok: impl.ClassesOk(list), fits: impl.MroFits(list)}
	a.lines, a.bad = impl.Mro(list)
	for _, class := range []int64{-1, 0, 1, int64(len(list)) - 1, int64(len(list))} {
		for _, name := range []string{"a", "", "\xff"} {
			how, val := impl.AttrGet(list, class, own, name)
			a.attrs = append(a.attrs, how, val, impl.AttrSet(list, class, own, name))
		}
	}
	return a
}

func (a classAnswer) equals(b classAnswer) bool {
	return a.ok == b.ok && a.bad == b.bad && slices.EqualFunc(a.lines, b.lines, slices.Equal[[]int64]) && slices.Equal(a.fits, b.fits) && slices.Equal(a.attrs, b.attrs)
}

func (a classAnswer) copied() classAnswer {
	lines := [][]int64{}
	for _, line := range a.lines {
		lines = append(lines, slices.Clone(line))
	}
	return classAnswer{ok: a.ok, lines: lines, bad: a.bad, fits: slices.Clone(a.fits), attrs: slices.Clone(a.attrs)}
}

func (a classAnswer) overwrite() {
	for _, line := range a.lines {
		overwriteList(line, -77)
	}
	overwriteList(a.lines, []int64{-77})
	overwriteList(a.fits, true)
}

func TestP20ClassesTheSameTwice(t *testing.T) {
	for _, own := range keepOwns() {
		for _, list := range keepClasses() {
			given, givenOwn := sparedClasses(list), spared(own, spareAttr)
			first := classAnswers(given, givenOwn)
			kept := first.copied()
			if !isSparedClasses(given, list) || !isSpared(givenOwn, own, spareAttr) {
				t.Fatal("what was given is written into:", attrsTold(list), own)
			}
			second := classAnswers(copyClasses(list), slices.Clone(own))
			if !second.equals(kept) {
				t.Fatal("another answer the second time:", attrsTold(list), own)
			}
			first.overwrite()
			if !isSparedClasses(given, list) || !isSpared(givenOwn, own, spareAttr) || !second.equals(kept) || !classAnswers(given, givenOwn).equals(kept) {
				t.Fatal("what was answered is kept or was given:", attrsTold(list), own)
			}
		}
	}
}

func TestP20LinesAreNewMemory(t *testing.T) {
	for _, list := range keepClasses() {
		given := sparedClasses(list)
		lines, _ := impl.Mro(given)
		fits := impl.MroFits(given)
		if listsShare(lines, given) || listsShare(fits, given) {
			t.Fatal("answers memory of the list:", basesTold(list))
		}
		for i, line := range lines {
			for _, c := range given {
				if listsShare(line, c.Bases) || listsShare(line, c.Attrs) || listsShare(fits, c.Bases) || listsShare(lines, c.Bases) {
					t.Fatal("answers memory of a class:", basesTold(list))
				}
			}
			for _, other := range lines[:i] {
				if listsShare(line, other) {
					t.Fatal("two lines share memory:", basesTold(list))
				}
			}
			if listsShare(line, lines) || listsShare(line, given) {
				t.Fatal("a line shares memory with a list:", basesTold(list))
			}
		}
	}
}
