package tests

import (
	"fmt"
	"strings"
	"testing"

	"loop.example/g00009/impl"
)

// counting are steps that go round n times without a tick, 9 instructions each time
// but the last one, which has 8, behind 2 others.
func counting(name string, n int) string {
	return fmt.Sprintf("Const=0 Store=%[1]s t: Load=%[1]s Const=1 Binary=6 Dup Store=%[1]s Const=%[2]d Compare=1 False>u%[1]s Jump>t u%[1]s: ", name, n)
}

const countTurn = 9

// counted is how many instructions counting does.
func counted(n int) int { return 2 + countTurn*n - 1 }

// countedSteps do just as many instructions, the last two of them a const and its
// return, without a tick. IJumps to what follows fill up.
func countedSteps(n int) string {
	turns := (n - 2 - 1) / countTurn
	for counted(turns) > n-2 {
		turns--
	}
	fill := ""
	for i := range n - 2 - counted(turns) {
		fill += fmt.Sprintf("Jump>p%[1]d p%[1]d: ", i)
	}
	return counting("x", turns) + fill + "Const=1 Return"
}

func wantSteps14(t *testing.T, what string, c impl.Code, budget int64, code int64, ticks int64) {
	t.Helper()
	if !impl.CodeOk(c) {
		t.Errorf("%s: can't be run", what)
	}
	o := impl.RunCode(c, budget)
	if o.Code != code || o.Ticks != ticks || code == impl.OutSteps && (o.Exc != "" || len(o.Trace) != 0 || o.Mod != 0 || o.Fault != impl.Fault{}) {
		t.Errorf("%s: %s", what, outTold(o))
	}
}

// stepCode is what a run ends with that does so many instructions without a tick.
func stepCode(n int) int64 {
	if n > impl.MaxSteps {
		return impl.OutSteps
	}
	return impl.OutEnd
}

func TestP11MachineSteps(t *testing.T) {
	for n := impl.MaxSteps - 12; n <= impl.MaxSteps+12; n++ {
		wantSteps14(t, fmt.Sprint(n, " steps"), codeBy(countedSteps(n)), 0, stepCode(n), 0)
	}
	for _, text := range []string{"x: Jump>x", "Loop>z Continue z: end", "x: Stmt=1 y: Jump>y", "Const=1 x: Dup Pop Jump>x", "Fin>f BlockEnd f: x: Jump>x", "Try>h x: Jump>x h: Reraise"} {
		ticks := int64(strings.Count(text, "Stmt"))
		wantSteps14(t, text, codeBy(text), 5, impl.OutSteps, ticks)
	}
	// What was printed stays; nothing that is to be done on the way out is.
	c := around(t, exitThings, codeBy("say=1 Fin>f Load=b With>z Pop Try>h x: Jump>x h: Pop say=2 BlockEnd z: BlockEnd f: say=3 Again end"))
	if o := impl.RunCode(c, 100); o.Code != impl.OutSteps || o.Text != "1\nin-b\n" {
		t.Error(outTold(o))
	}
	// It comes ahead of the tick for which there is nothing left.
	wantSteps14(t, "a tick that is too late", codeBy("x: "+strings.Replace(countedSteps(impl.MaxSteps), "Const=1 Return", "Const=1 Pop Stmt=1 end", 1)), 0, impl.OutSteps, 0)
	wantSteps14(t, "a tick in time", codeBy("x: "+strings.Replace(countedSteps(impl.MaxSteps-1), "Const=1 Return", "Const=1 Pop Stmt=1 end", 1)), 0, impl.OutTicks, 0)
	wantSteps14(t, "a tick in time that is there", codeBy("x: "+strings.Replace(countedSteps(impl.MaxSteps-1), "Const=1 Return", "Const=1 Pop Stmt=1 end", 1)), 1, impl.OutEnd, 1)
}

// Behind a tick all of them may be done again.
func TestP11MachineStepsBehindTicks(t *testing.T) {
	for _, tick := range []string{"Stmt=1", "Turn", "Const='a' Unpack=1 Pop"} {
		ticks := int64(1)
		if strings.HasPrefix(tick, "Const") {
			ticks = 2
		}
		for n := impl.MaxSteps - 9; n <= impl.MaxSteps+9; n++ {
			first := strings.Replace(countedSteps(60000), "Const=1 Return", "", 1)
			first = strings.NewReplacer("=x", "=y", ">t", ">s", " t:", " s:", ">ux", ">uy", " ux:", " uy:", ">p", ">q", " p", " q").Replace(first)
			behind := n
			if ticks == 2 {
				// The IPop behind the tick is one of them.
				behind--
			}
			c := codeBy(first + tick + " " + countedSteps(behind))
			wantSteps14(t, fmt.Sprint(n, " behind ", tick), c, 10, stepCode(n), ticks)
		}
	}
	// Many times nearly so many, with a tick each time.
	text := "Const=0 Store=k o: Turn Load=k Const=1 Binary=6 Dup Store=k Const=5 Compare=1 False>e " + counting("x", 11000) + "Jump>o e: end"
	wantSteps14(t, "again and again", codeBy(text), 10, impl.OutEnd, 5)
}

// They are counted in whatever frames: comprehensions and generator expressions
// cost no tick when they begin.
func TestP11MachineStepsInFrames(t *testing.T) {
	part := func(n int) string {
		return "|| list c | " + strings.Replace(countedSteps(n), "Const=1 Return", "Pop Return", 1)
	}
	// The module: Const Iter Comp Pop, twice, Const Return. The parts' Pop Return are
	// two for two.
	for n := impl.MaxSteps - 9; n <= impl.MaxSteps+9; n++ {
		text := "Const='a' Iter Comp=1 Pop Const='a' Iter Comp=2 Pop end" + part(40000) + part(n-40000-10)
		wantSteps14(t, fmt.Sprint(n, " in three frames"), codeBy(text), 0, stepCode(n), 0)
	}
	// A call costs a tick: what the caller did is forgotten.
	for n := impl.MaxSteps - 9; n <= impl.MaxSteps+9; n++ {
		before := strings.Replace(countedSteps(90000), "Const=1 Return", "", 1)
		text := "Args Func=1 Store=f " + before + "go=f end || def f | " + countedSteps(n-3)
		// Behind the function's return: Pop Const Return.
		wantSteps14(t, fmt.Sprint(n, " behind a call"), codeBy(text), 9, stepCode(n), 1)
	}
	// A generator's turns.
	for n := impl.MaxSteps - 9; n <= impl.MaxSteps+9; n++ {
		text := "Args Func=1 Store=g do=g Iter t: For>x Jump>x2 x: Pop end x2: Pop Pop end || gen g | " + strings.Replace(countedSteps(n-6), "Const=1 Return", "Const=1 Yield Return", 1)
		// Of countedSteps Const Return are Const Yield here; For's asking is the tick;
		// then Jump Pop Pop Const Return.
		want := n - 1
		wantSteps14(t, fmt.Sprint(n, " in a generator"), codeBy(text), 9, stepCode(want), 2)
	}
}

// No limit of steps is met by what is compiled.
func TestP11CompiledHasTicks(t *testing.T) {
	long := "x = [" + strings.Repeat("1 + 1, ", 700) + "]\n"
	for how := int64(0); how <= 2; how++ {
		o := impl.RunMods([]impl.Mod{{Name: "main", Src: long + long}}, impl.MaxTicks, how)
		if o.Code != impl.OutEnd || o.Ticks != 1402 {
			t.Error(outTold(o))
		}
	}
	src := "def f(n):\n  while n: n -= 1\nfor i in range(30): f(100)\n"
	wantSame(t, modsOf(src), impl.MaxTicks)
}
