package tests

import (
	"runtime"
	"slices"
	"sync"
	"testing"
	"time"

	"loop.example/g00009/impl"
)

// keepMods are programs of one and of more modules, and ones that are none.
func keepMods() [][]impl.Mod {
	out := [][]impl.Mod{nil, {{Name: "1"}}, {{Name: "a", Src: "("}}, make([]impl.Mod, 21)}
	for i, p := range allProgs() {
		if i%3 == 0 {
			out = append(out, modsOf(p.src))
		}
	}
	for seed := range int64(200) {
		out = append(out, modsOf(drawnProgram(seed+7000)))
	}
	return out
}

var spareMod = impl.Mod{Name: "spare", Src: "print('spare')"}

func TestP20MeaningTheSameTwice(t *testing.T) {
	t.Parallel()
	for _, mods := range keepMods() {
		for _, budget := range []int64{-1, 0, 3, 50, 2000} {
			given := spared(mods, spareMod)
			first := impl.Meaning(given, budget)
			second := impl.Meaning(given, budget)
			if !sameOut(first, second) {
				t.Fatalf("%v\n%s\n%s", mods, outTold(first), outTold(second))
			}
			if !isSpared(given, mods, spareMod) {
				t.Fatalf("%v is %v", mods, given)
			}
		}
	}
}

func TestP20MeaningIsNewMemory(t *testing.T) {
	src := "def f(n):\n  if n: f(n - 1)\n  1 / 0\nf(5)\n"
	first := meant(src)
	kept := slices.Clone(first.Trace)
	second := meant(src)
	if listsShare(first.Trace, second.Trace) {
		t.Error("two traces share memory")
	}
	for i := range second.Trace[:cap(second.Trace)] {
		second.Trace[:cap(second.Trace)][i] = impl.Spot{Name: "changed", Line: 99}
	}
	if !slices.Equal(first.Trace, kept) || !slices.Equal(meant(src).Trace, kept) {
		t.Error(first.Trace)
	}
}

// Calls at the same time do not meet one another.
func TestP20MeaningBesideOthers(t *testing.T) {
	t.Parallel()
	list := allProgs()
	var all sync.WaitGroup
	for worker := range 8 {
		all.Go(func() {
			for i := worker; i < len(list); i += 40 {
				if o := meant(list[i].src); o.Text != list[i].text || o.Exc != list[i].exc {
					t.Errorf("%s\n%s", list[i].src, outTold(o))
				}
			}
		})
	}
	all.Wait()
}

// Generators that are not at their end when the program ends end with it, without
// their finally being executed.
func TestP20GeneratorsEnd(t *testing.T) {
	src := "def g(n):\n  try:\n    for i in range(n): yield i\n    if n: yield from g(n - 1)\n  except BaseException: print('no')\n  finally: print('no')\na = []\nfor k in range(300):\n  a.append(g(k % 4 + 1))\n  next(a[-1])\n  if k % 2: next(a[-1], 0)\n"
	before := runtime.NumGoroutine()
	for _, end := range []string{"", "1 / 0\n", "while True: pass\n", "print('a' * 16384)\n", "import m\n# module m\n)\n"} {
		o := meant(src + end)
		if o.Text != "" && end != "" && o.Text[:2] != "no" {
			t.Errorf("%q: %s", end, outTold(o))
		}
	}
	for range 100 {
		if runtime.NumGoroutine() <= before {
			return
		}
		time.Sleep(10 * time.Millisecond)
	}
	t.Error("goroutines are left over", runtime.NumGoroutine()-before)
}
