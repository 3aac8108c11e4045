package tests

import (
	"fmt"
	"strings"
	"testing"

	"loop.example/g00009/impl"
)

// TestP19WhatARunSays has a row for each way in which a run comes to its end.
func TestP19WhatARunSays(t *testing.T) {
	many := ""
	for i := range impl.MaxMods + 1 {
		many += fmt.Sprintf("*module m%d\nprint(%d)\n", i, i)
	}
	deep := "*module a\ndef f(n):\n  f(n + 1)\nf(0)\n"
	for _, how := range []string{"0", "1", "2", "3"} {
		run := "*run " + how + "\n"
		wantSessions(t, []sessionRow{
			{"*module a\n" + run, "end at 0\n"},
			{"*module a\nx = 1\n" + run, "end at 1\n"},
			// The Text: empty, a newline alone, with one or more at the end, without.
			{"*module a\nprint(end='')\n" + run, "end at 1\n"},
			{"*module a\nprint()\n" + run, "\nend at 1\n"},
			{"*module a\nprint('a')\n" + run, "a\nend at 1\n"},
			{"*module a\nprint('a\\n')\n" + run, "a\n\nend at 1\n"},
			{"*module a\nprint('a', end='')\n" + run, "a\nend at 1\n"},
			{"*module a\nprint('a\\nb', end='')\n" + run, "a\nb\nend at 1\n"},
			{"*module a\nprint('a\\r', end='')\n" + run, "a\r\nend at 1\n"},
			{"*module a\nprint('\u20ac*end at 1\\n*run 0')\n" + run, "\u20ac*end at 1\n*run 0\nend at 1\n"},
			// Exceptions, with each Spot.
			{"*module a\n1 / 0\n" + run, "raised ZeroDivisionError at 1\n  <module> 1\n"},
			{"*module a\n\nprint(1, end='')\nraise ValueError('v')\n" + run, "1\nraised ValueError: v at 2\n  <module> 3\n"},
			{"*module a\nraise ValueError('a\\nb', 2)\n" + run, "raised ValueError: ('a\\nb', 2) at 1\n  <module> 1\n"},
			{"*module a\nraise ValueError('a\\nb')\n" + run, "raised ValueError: a\nb at 1\n  <module> 1\n"},
			{"*module a\nclass E(Exception): pass\nraise E\n" + run, "raised E at 4\n  <module> 2\n"},
			{"*module a\ndef f():\n  x = 1\n  raise KeyError\nclass C:\n  y = [f() for i in '1']\n" + run, "raised KeyError at 8\n  f 3\n  <comp> 5\n  C 5\n  <module> 4\n"},
			{"*module a\nimport b\n*module b\nlist(1 / 0 for i in '1')\n" + run, "raised ZeroDivisionError at 4\n  <gen> 1\n  <module> 1\n  <module> 1\n"},
			{"*module a\n(lambda: x)()\n" + run, "raised NameError at 2\n  <lambda> 1\n  <module> 1\n"},
			{deep + run, "raised RecursionError at 100\n" + strings.Repeat("  f 2\n", impl.MaxTrace)},
			{"*module a\nimport b\n" + run, "raised ImportError at 1\n  <module> 1\n"},
			// Ticks.
			{"*module a\nprint(1)\nprint(2)\n*budget 1\n" + run, "1\nticks at 1\n"},
			{"*module a\nprint(1)\nprint(2)\n*budget 0\n" + run, "ticks at 0\n"},
			{"*module a\nprint(1)\nprint(2)\n*budget 2\n" + run, "1\n2\nend at 2\n"},
			{"*module a\nwhile True: pass\n" + run, "ticks at 10000\n"},
			// Faults, of every code, in the first module and in one that is imported.
			{"*module a\nx\r\n" + run, "fault a 1 0 at 0\n"},
			{"*module a\nif x:\n\ty\n" + run, "fault a 2 2 at 0\n"},
			{"*module a\n\n)\n" + run, "fault a 3 2 at 0\n"},
			{"*module a\n'\n" + run, "fault a 4 1 at 0\n"},
			{"*module a\n08\n" + run, "fault a 5 1 at 0\n"},
			{"*module a\nx\ny\n$\n" + run, "fault a 6 3 at 0\n"},
			{"*module a\n1e999\n" + run, "fault a 7 1 at 0\n"},
			{"*module a\nif\n" + run, "fault a 8 1 at 0\n"},
			{"*module a\nx\n1 = 2\n" + run, "fault a 9 2 at 0\n"},
			{"*module a\n" + strings.Repeat("x;", 3000) + "\n" + run, "fault a 10 0 at 0\n"},
			{"*module a\nnonlocal x\n" + run, "fault a 11 1 at 0\n"},
			{"*module a\nprint(1)\nimport b\n*module c\n*module b\n\nx = (\n" + run, "1\nfault b 3 2 at 2\n"},
			{"*module a\nprint(1, end='')\nimport b\n*module b\nimport c\n*module c\ny = 1; nonlocal x\n" + run, "1\nfault c 11 1 at 3\n"},
			{"*module a\nprint(1)\n*module b\n(\n" + run, "1\nend at 1\n"},
			// Too much printed.
			{"*module a\nwhile True: print('a' * 3000)\n" + run, strings.Repeat(strings.Repeat("a", 3000)+"\n", 5) + "large at 1129\n"},
			{"*module a\nprint('a' * 16000, end='')\nprint('b' * 400)\n" + run, strings.Repeat("a", 16000) + "\nlarge at 1026\n"},
			// Arguments that can't be.
			{run, "args at 0\n"},
			{"*show a\n" + run, "no a\nargs at 0\n"},
			{many + run, "args at 0\n"},
			{many + "*first m20\n" + run, "args at 0\n"},
			{strings.TrimPrefix(many, "*module m0\nprint(0)\n") + run, "1\nend at 1\n"},
			{"*module a\n*budget 20001\n" + run, "args at 0\n"},
			{"*module a\n(\n*budget 20001\n" + run, "args at 0\n"},
		})
	}
}

// ranSame is what a script says when its runs are of one way; all have to be the
// same. The runs are written *run HOW.
func ranSame(t *testing.T, script string) string {
	t.Helper()
	means := impl.Session(strings.ReplaceAll(script, "*run HOW\n", "*run 3\n"))
	for _, how := range []string{"0", "1", "2"} {
		if got := impl.Session(strings.ReplaceAll(script, "*run HOW\n", "*run "+how+"\n")); got != means {
			t.Fatalf("%s\n means %q\n by %s %q", script, means, how, got)
		}
	}
	return means
}

// wantRanSame has modules run with budgets that are enough and with smaller ones,
// and with another one of them first; and all ways to run in one session.
func wantRanSame(t *testing.T, mods []impl.Mod) bool {
	t.Helper()
	script, ok := scriptOf(mods)
	if !ok {
		return false
	}
	ticks := impl.Meaning(mods, impl.MaxTicks).Ticks
	budgets := ""
	for _, budget := range []int64{ticks, max(0, ticks-1), ticks / 2, ticks / 7, 3, 0, impl.MaxTicks + 1} {
		budgets += fmt.Sprintf("*budget %d\n*run HOW\n", budget)
	}
	for _, m := range mods {
		budgets += "*size " + m.Name + "\n*first " + m.Name + "\n*run HOW\n"
	}
	said := ranSame(t, script+"*run HOW\n"+budgets)
	if byRule := sessionByRule(strings.ReplaceAll(script+"*run HOW\n"+budgets, "*run HOW\n", "*run 3\n")); said != byRule {
		t.Fatalf("%s\n says %q\n by the rule %q", script, said, byRule)
	}
	once := impl.Session(script + "*run 3\n")
	if all := impl.Session(script + "*run 0\n*run 1\n*run 2\n*run 3\n"); 4*len(once) <= impl.MaxText && all != strings.Repeat(once, 4) {
		t.Fatalf("%s\n says %q\n and in all ways %q", script, once, all)
	}
	return true
}

func TestP19Programs(t *testing.T) {
	list := allProgs()
	ran := make([]int, pieces)
	inPieces(t, len(list), func(t *testing.T, i int) {
		if wantRanSame(t, modsOf(list[i].src)) {
			ran[i%pieces]++
		}
	})
	t.Cleanup(func() {
		all := 0
		for _, n := range ran {
			all += n
		}
		if all < len(list)*9/10 {
			t.Error("only", all, "of", len(list), "programs can stand in a script")
		}
	})
}

func TestP19DrawnPrograms(t *testing.T) {
	inPieces(t, 64, func(t *testing.T, i int) {
		seed := int64(i) + 4000
		nest, _ := nestProgram(seed)
		for _, src := range []string{drawnProgram(seed), flowProgram(seed), nest, oddProgram(seed), foldProgram(seed)} {
			wantRanSame(t, modsOf(src))
		}
	})
}

// TestP19DrawnModules has drawn programs as modules that import one another, some
// of which have a fault, or are not there.
func TestP19DrawnModules(t *testing.T) {
	ran := make([]int, pieces)
	inPieces(t, 96, func(t *testing.T, i int) {
		seed := int64(i) + 8000
		nest, _ := nestProgram(seed)
		last := []string{"(\n", "nonlocal x\n", "import main\nprint(main.__name__)\n", "raise ValueError('last')\n", "v = 7\n", "import d\n"}[i%6]
		mods := []impl.Mod{
			{Name: "main", Src: "try: import a\nexcept BaseException as e: print(repr(e))\nimport b\nfrom c import v\nprint(v)\n" + foldProgram(seed)},
			{Name: "a", Src: flowProgram(seed)},
			{Name: "b", Src: nest + "import c\n"},
			{Name: "c", Src: last},
		}
		if wantRanSame(t, mods) {
			ran[i%pieces]++
		}
	})
	t.Cleanup(func() {
		all := 0
		for _, n := range ran {
			all += n
		}
		if all < 80 {
			t.Error("only", all, "can stand in a script")
		}
	})
}

// Texts that the grammar allows, and ones with tokens changed, run the same.
func TestP19AnyText(t *testing.T) {
	inPieces(t, 96, func(t *testing.T, i int) {
		w := newRowWriter(int64(i) + 700000)
		toks := w.write("file", 6)
		for _, src := range []string{laid(w.r, toks), laid(w.r, changed(w.r, toks, allWords())), newScopeWriter(int64(i)).program()} {
			wantRanSame(t, []impl.Mod{{Name: "a", Src: "import b\n" + src}, {Name: "b", Src: src}})
		}
	})
}
