package tests

import (
	"testing"

	"loop.example/g00009/impl"
)

// codeAlone is the code of a program of one module that can be compiled.
func codeAlone(mods []impl.Mod) (impl.Code, bool) {
	if len(mods) != 1 {
		return impl.Code{}, false
	}
	tree, fault := impl.Parse(mods[0].Src)
	if fault.Code != impl.FaultNone {
		return impl.Code{}, false
	}
	c, fault := impl.Compile(tree)
	return c, fault.Code == impl.FaultNone
}

// wantSame runs modules in every way; all have to tell what they mean.
func wantSame(t *testing.T, mods []impl.Mod, budget int64) impl.Out {
	t.Helper()
	means := impl.Meaning(mods, budget)
	for how := int64(0); how <= 2; how++ {
		if o := impl.RunMods(mods, budget, how); !sameOut(o, means) {
			t.Fatalf("%s\n with %d means %s\n how %d %s", mods[0].Src, budget, outTold(means), how, outTold(o))
		}
	}
	if c, ok := codeAlone(mods); ok {
		if o := impl.RunCode(c, budget); !sameOut(o, means) {
			t.Fatalf("%s\n with %d means %s\n its code %s", mods[0].Src, budget, outTold(means), outTold(o))
		}
	}
	return means
}

// wantSameBudgets runs a program with every budget up to one more than it spends.
func wantSameBudgets(t *testing.T, src string) {
	t.Helper()
	mods := modsOf(src)
	whole := wantSame(t, mods, impl.MaxTicks)
	most := min(whole.Ticks+1, impl.MaxTicks)
	step := 1 + most/200
	for budget := int64(0); budget < most; budget += step {
		wantSame(t, mods, budget)
	}
	for budget := max(0, most-2); budget <= most; budget++ {
		wantSame(t, mods, budget)
	}
}

func TestP11MachinePrograms(t *testing.T) {
	t.Parallel()
	for _, p := range allProgs() {
		wantSameBudgets(t, p.src)
	}
}

func TestP11MachineDrawn(t *testing.T) {
	t.Parallel()
	for seed := int64(0); seed < 300; seed++ {
		wantSame(t, modsOf(drawnProgram(seed)), impl.MaxTicks)
		wantSame(t, modsOf(flowProgram(seed)), impl.MaxTicks)
		nest, _ := nestProgram(seed)
		wantSame(t, modsOf(nest), impl.MaxTicks)
		wantSame(t, modsOf(oddProgram(seed)), impl.MaxTicks)
	}
}
