package tests

import (
	"fmt"
	"math/rand"
	"testing"

	"loop.example/g00009/impl"
)

// codeAlone is the code of a program of one module, main, that can be compiled.
func codeAlone(mods []impl.Mod) (impl.Code, bool) {
	if len(mods) != 1 || mods[0].Name != "main" {
		return impl.Code{}, false
	}
	tree, fault := impl.Parse(mods[0].Src)
	if fault.Code != impl.FaultNone {
		return impl.Code{}, false
	}
	c, fault := impl.Compile(tree)
	return c, fault.Code == impl.FaultNone
}

// wantSame runs modules in every way; all have to tell what they mean.
func wantSame(t *testing.T, mods []impl.Mod, budget int64) impl.Out {
	t.Helper()
	means := impl.Meaning(mods, budget)
	for how := int64(0); how <= 2; how++ {
		if o := impl.RunMods(mods, budget, how); !sameOut(o, means) {
			t.Fatalf("%v\n with %d means %s\n how %d %s", mods, budget, outTold(means), how, outTold(o))
		}
	}
	if c, ok := codeAlone(mods); ok {
		if o := impl.RunCode(c, budget); !sameOut(o, means) {
			t.Fatalf("%v\n with %d means %s\n its code %s", mods, budget, outTold(means), outTold(o))
		}
	}
	return means
}

// wantSameBudgets runs a program with every budget up to one more than it spends,
// or, when it spends very many, with some of them.
func wantSameBudgets(t *testing.T, src string, most int64) {
	t.Helper()
	mods := modsOf(src)
	whole := wantSame(t, mods, impl.MaxTicks)
	last := min(whole.Ticks+1, impl.MaxTicks)
	step := 1 + last/most
	for budget := int64(0); budget < last; budget += step {
		wantSame(t, mods, budget)
	}
	for budget := max(0, last-2); budget <= last; budget++ {
		wantSame(t, mods, budget)
	}
}

// pieces is how many tests a long one is cut into, which run beside one another.
const pieces = 16

// inPieces does something for each number below n.
func inPieces(t *testing.T, n int, do func(t *testing.T, i int)) {
	t.Parallel()
	for piece := range pieces {
		t.Run(fmt.Sprint(piece), func(t *testing.T) {
			t.Parallel()
			for i := piece; i < n; i += pieces {
				do(t, i)
			}
		})
	}
}

func TestP11MachinePrograms(t *testing.T) {
	list := allProgs()
	inPieces(t, len(list), func(t *testing.T, i int) { wantSameBudgets(t, list[i].src, 150) })
}

func TestP11MachineDrawn(t *testing.T) {
	inPieces(t, 300, func(t *testing.T, i int) {
		seed := int64(i)
		nest, _ := nestProgram(seed)
		for _, src := range []string{drawnProgram(seed), flowProgram(seed), nest, oddProgram(seed), foldProgram(seed)} {
			wantSame(t, modsOf(src), impl.MaxTicks)
			if i%20 == 0 {
				wantSameBudgets(t, src, 40)
			}
		}
	})
}

// Code that is changed at random but can be run tells the same improved, and read
// back. (But for the limit of steps: improved code has fewer.)
func TestP11MachineChanged(t *testing.T) {
	ran := make([]int, pieces)
	inPieces(t, 240, func(t *testing.T, i int) {
		r := rand.New(rand.NewSource(int64(i)))
		for _, src := range []string{foldProgram(int64(i)), flowProgram(int64(i)), drawnProgram(int64(i))} {
			c, ok := codeAlone(modsOf(src))
			if !ok {
				continue
			}
			for range 24 {
				d := turned(r, c)
				for range r.Intn(3) {
					d = turned(r, d)
				}
				if !impl.CodeOk(d) {
					continue
				}
				ran[i%pieces]++
				o := impl.RunCode(d, 3000)
				if o.Code == impl.OutArgs {
					t.Fatalf("%s\n is not taken", codeTold(d))
				}
				if back := impl.RunCode(readBack(t, d), 3000); !sameOut(o, back) {
					t.Fatalf("%s\n tells %s\n read back %s", codeTold(d), outTold(o), outTold(back))
				}
				better := impl.RunCode(impl.Improve(d), 3000)
				if o.Code != impl.OutSteps && !sameOut(o, better) {
					t.Fatalf("%s\n tells %s\n improved %s", codeTold(d), outTold(o), outTold(better))
				}
			}
		}
	})
	t.Cleanup(func() {
		all := 0
		for _, n := range ran {
			all += n
		}
		if all < 700 {
			t.Error("too few could be run:", all)
		}
	})
}
