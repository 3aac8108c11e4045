package tests

import (
	"bytes"
	"fmt"
	"math"
	"slices"
	"sync"
	"testing"
	"unsafe"

	"loop.example/g00009/impl"
)

// runCodes are codes by hand beside those of keepCodes.
func runCodes(t *testing.T) []impl.Code {
	out := keepCodes(t)
	for _, text := range []string{
		"x: Jump>x", inFunction("Fin>f say=1 Const=5 Return f: say=2 Again end"), "Const='ab' Iter Comp=1 tell end || list c | t: For>x Collect Jump>t x: Pop Return",
		"Args Func=1 Store=g Load=list do=g Deco tell end || gen g | Const=1 Yield Pop end", "Args Load=ValueError Add Class=1 Raise=1 || class Some_name | end",
		"Args Func=1 Store=f go=f end || def f | go=f end",
	} {
		out = append(out, codeBy(text))
	}
	return out
}

func TestP20CodeTakersTheSameTwice(t *testing.T) {
	t.Parallel()
	for i, c := range runCodes(t) {
		given := copyCode(c)
		b, ok := impl.PackCode(given)
		again, okAgain := impl.PackCode(copyCode(c))
		depths, depthsAgain := impl.Depths(given), impl.Depths(copyCode(c))
		if ok != okAgain || !bytes.Equal(b, again) || !slices.Equal(depths, depthsAgain) {
			t.Fatal(i, "PackCode or Depths answer otherwise")
		}
		keptBytes, keptDepths := slices.Clone(b), slices.Clone(depths)
		filled(b, 77)
		filled(depths, -7)
		third, _ := impl.PackCode(given)
		if !bytes.Equal(again, keptBytes) || !bytes.Equal(third, keptBytes) || !slices.Equal(depthsAgain, keptDepths) || !slices.Equal(impl.Depths(given), keptDepths) {
			t.Fatal(i, "what PackCode or Depths answered is kept")
		}
		for _, budget := range []int64{-1, 0, 7, 400} {
			first, second := impl.RunCode(given, budget), impl.RunCode(copyCode(c), budget)
			if !sameOut(first, second) {
				t.Fatalf("%d: %s\n%s", i, outTold(first), outTold(second))
			}
			if listsShare(first.Trace, second.Trace) {
				t.Fatal(i, "two traces share memory")
			}
			texts := textsOf(given)
			for _, spot := range first.Trace {
				wantUnshared(t, i, []string{spot.Name}, texts)
			}
			wantUnshared(t, i, []string{first.Exc, first.Text}, texts)
			filled(first.Trace, impl.Spot{Name: "overwritten", Line: -7})
		}
		if !sameCode(given, c) || !spareIsThere(given) {
			t.Fatal(i, "code was written into")
		}
	}
}

// A name, a text and a class of code stand in what is told of it.
func TestP20CodeTextsAreNew(t *testing.T) {
	c := codeBy("Stmt=1 Args Func=1 Store=f go=f end || def some_function | Args Load=ValueError Add Class=2 Args Const='some_text' Add Call Raise=1 || class Some_class | end")
	o := impl.RunCode(c, 100)
	if o.Exc != "Some_class: some_text" || len(o.Trace) != 2 || o.Trace[0].Name != "some_function" {
		t.Fatal(outTold(o))
	}
	wantUnshared(t, 0, []string{o.Exc, o.Text, o.Trace[0].Name, o.Trace[1].Name}, textsOf(c))
	c = codeBy("Args Load=ValueError Add Class=1 Raise=1 || class Some_class | end")
	o = impl.RunCode(c, 100)
	if o.Exc != "Some_class" {
		t.Fatal(outTold(o))
	}
	wantUnshared(t, 1, []string{o.Exc}, textsOf(c))
	c = codeBy("Load=print Args Const='some_text' Add Const='' Key=end Call Return")
	o = impl.RunCode(c, 100)
	if o.Text != "some_text" {
		t.Fatal(outTold(o))
	}
	wantUnshared(t, 2, []string{o.Text}, textsOf(c))
}

func TestP20ReadCodeIsNewMemory(t *testing.T) {
	t.Parallel()
	for i, c := range append(packCodes(t)[:300], impl.Code{}) {
		b := packedRule(c)
		given := spared(b, 99)
		first, code := impl.ReadCode(given)
		kept := copyCode(first)
		wantUnshared(t, i, textsOf(first), []string{unsafe.String(unsafe.SliceData(given), len(given))})
		if !isSpared(given, b, 99) {
			t.Fatal(i, "bytes were written into")
		}
		second, again := impl.ReadCode(slices.Clone(b))
		if code != again || !sameCode(second, kept) {
			t.Fatal(i, "other code the second time")
		}
		filled(given, 1)
		if !sameCode(first, kept) {
			t.Fatal(i, "code hangs on the bytes")
		}
		overwriteCode(first)
		if third, _ := impl.ReadCode(b); !sameCode(second, kept) || !sameCode(third, kept) {
			t.Fatal(i, "what was answered is kept")
		}
		if len(c.Parts) > 6 || i > 120 {
			continue
		}
		for k := range listsOf(second) {
			d, _ := impl.ReadCode(b)
			wantOthersAlone(t, i, d, k)
		}
	}
}

func TestP20RunModsTheSameTwice(t *testing.T) {
	t.Parallel()
	for i, mods := range keepMods() {
		if i%3 != 0 && len(mods) == 1 {
			continue
		}
		for how := int64(-1); how <= 3; how++ {
			for _, budget := range []int64{-1, 0, 3, 2000} {
				given := spared(mods, spareMod)
				first, second := impl.RunMods(given, budget, how), impl.RunMods(given, budget, how)
				if !sameOut(first, second) || listsShare(first.Trace, second.Trace) {
					t.Fatalf("%v\n%s\n%s", mods, outTold(first), outTold(second))
				}
				if !isSpared(given, mods, spareMod) {
					t.Fatalf("%v is %v", mods, given)
				}
				texts := []string{}
				for _, m := range mods {
					texts = append(texts, m.Name, m.Src)
				}
				wantUnshared(t, i, []string{first.Exc, first.Text}, texts)
				for _, spot := range first.Trace {
					wantUnshared(t, i, []string{spot.Name}, texts)
				}
			}
		}
	}
}

// Runs at the same time do not meet one another.
func TestP20RunsBesideOthers(t *testing.T) {
	t.Parallel()
	list := allProgs()
	c := codeBy(inFunction("Fin>f say=1 Const=5 Return f: say=2 Again end"))
	var all sync.WaitGroup
	for worker := range 8 {
		all.Go(func() {
			for i := worker; i < len(list); i += 40 {
				if o := impl.RunMods(modsOf(list[i].src), impl.MaxTicks, int64(i%3)); o.Text != list[i].text || o.Exc != list[i].exc {
					t.Errorf("%s\n%s", list[i].src, outTold(o))
				}
				if o := impl.RunCode(c, 10); o.Text != "1\n2\n5\n" {
					t.Error(outTold(o))
				}
			}
		})
	}
	all.Wait()
}

func TestP11RunModsArguments(t *testing.T) {
	good := []impl.Mod{{Name: "main", Src: "print(1)\n"}}
	wantSame(t, good, 10)
	args := impl.Out{Code: impl.OutArgs}
	for _, how := range []int64{-1, 3, 4, math.MaxInt64, math.MinInt64} {
		if o := impl.RunMods(good, 10, how); !sameOut(o, args) {
			t.Errorf("how %d: %s", how, outTold(o))
		}
	}
	many := []impl.Mod{}
	for i := range impl.MaxMods + 1 {
		many = append(many, impl.Mod{Name: fmt.Sprint("m", i), Src: "print(1)\n"})
	}
	for _, mods := range [][]impl.Mod{nil, {}, many, {{Name: ""}}, {{Name: "if"}}, {{Name: "a b"}}, {{Name: "1"}}, {{Name: "a"}, {Name: "a"}}, {{Name: "a"}, {Name: "\xff"}}} {
		if o := wantSame(t, mods, 10); !sameOut(o, args) {
			t.Errorf("%v: %s", mods, outTold(o))
		}
	}
	if o := wantSame(t, many[1:], 10); o.Code != impl.OutEnd {
		t.Error(outTold(o))
	}
	for _, budget := range []int64{-1, impl.MaxTicks + 1, math.MaxInt64, math.MinInt64} {
		if o := wantSame(t, good, budget); !sameOut(o, args) {
			t.Errorf("budget %d: %s", budget, outTold(o))
		}
	}
	wantSame(t, good, impl.MaxTicks)
	wantSame(t, good, 0)
}

// Modules with a fault: the first, one that is imported, one that never is.
func TestP11RunModsFaults(t *testing.T) {
	for _, bad := range []string{")", "x = (\n", "if a:\nb\n", "'", "nonlocal x\n", "def f():\n  global a\n  nonlocal a\n", "1 = 2\n", "\xff", "x = [" + deepBrackets(120) + "]\n", "print(1)\n" + wideText(3200)} {
		for _, src := range []string{bad, "import m\n", "print(1)\nimport m\nprint(2)\n", "from m import x\n", "print(1)\n", "try: import m\nfinally: print(3)\n", "def f(): import m\nprint(1)\nf()\n", "import o\nprint(1)\n", "class A:\n  import m\n"} {
			mods := []impl.Mod{{Name: "main", Src: src}, {Name: "o", Src: "print('o')\nimport m\n"}, {Name: "m", Src: bad}}
			o := wantSame(t, mods, 50)
			fails := src != "print(1)\n"
			if (o.Code == impl.OutFault) != fails || fails && (o.Fault.Code == impl.FaultNone || (o.Mod == 0) != (src == bad) || o.Mod == 1) {
				t.Errorf("%.60q, %.60q: %s", src, bad, outTold(o))
			}
		}
	}
}

func deepBrackets(n int) string {
	out := ""
	for range n {
		out += "["
	}
	for range n {
		out += "]"
	}
	return out
}

// wideText has so many nodes and more: each is a statement of three.
func wideText(n int) string {
	out := ""
	for range n {
		out += "a;b\n"
	}
	return out
}

func TestP11GeneratorsOfTheMachineEnd(t *testing.T) {
	src := "def g(n):\n  try:\n    for i in range(n): yield i\n    if n: yield from g(n - 1)\n  except BaseException: print('no')\n  finally: print('no')\na = []\nfor k in range(300):\n  a.append(g(k % 4 + 1))\n  next(a[-1])\n  if k % 2: next(a[-1], 0)\n"
	for _, end := range []string{"", "1 / 0\n", "while True: pass\n", "print('a' * 16384)\n", "import m\n# module m\n)\n"} {
		wantSame(t, modsOf(src+end), impl.MaxTicks)
	}
}
