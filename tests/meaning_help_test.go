package tests

import (
	"fmt"
	"slices"
	"strings"
	"testing"

	"loop.example/g00009/impl"
)

// prog is a program with what it tells. Its modules behind the first stand, each
// behind a line "# module NAME", in its text. It ends when exc is empty.
type prog struct {
	src  string
	text string
	exc  string
}

const moduleMark = "# module "

// modsOf cuts a program's text into its modules.
func modsOf(src string) []impl.Mod {
	pieces := strings.Split(src, moduleMark)
	mods := []impl.Mod{{Name: "main", Src: pieces[0]}}
	for _, piece := range pieces[1:] {
		name, rest, _ := strings.Cut(piece, "\n")
		mods = append(mods, impl.Mod{Name: name, Src: rest})
	}
	return mods
}

func meant(src string) impl.Out { return meaning(modsOf(src), impl.MaxTicks) }

// meaning is what Meaning tells, and the machine has to tell.
func meaning(mods []impl.Mod, budget int64) impl.Out {
	means := impl.Meaning(mods, budget)
	for how := int64(0); how <= 2; how++ {
		if o := impl.RunMods(mods, budget, how); !sameOut(o, means) {
			panic(fmt.Sprintf("%v\n with %d means %s\n how %d %s", mods, budget, outTold(means), how, outTold(o)))
		}
	}
	return means
}

func outTold(o impl.Out) string {
	return fmt.Sprintf("code %d exc %.300q trace %v ticks %d mod %d fault %v text of %d %.500q", o.Code, o.Exc, o.Trace, o.Ticks, o.Mod, o.Fault, len(o.Text), o.Text)
}

func sameOut(a impl.Out, b impl.Out) bool {
	return a.Code == b.Code && a.Text == b.Text && a.Exc == b.Exc && slices.Equal(a.Trace, b.Trace) && a.Ticks == b.Ticks && a.Mod == b.Mod && a.Fault == b.Fault
}

func wantProg(t *testing.T, p prog) {
	t.Helper()
	o := meant(p.src)
	code := int64(impl.OutEnd)
	if p.exc != "" {
		code = impl.OutRaised
	}
	if o.Code != code || o.Text != p.text || o.Exc != p.exc {
		t.Errorf("%s\n is %s\n not %q %q", p.src, outTold(o), p.text, p.exc)
	}
}

func wantProgs(t *testing.T, list []prog) {
	t.Helper()
	for _, p := range list {
		wantProg(t, p)
	}
}

// rowsOf are the programs of rows "EXPRESSION => REPR", or "EXPRESSION => !EXC",
// each behind the statements of before.
func rowsOf(before string, rows string) []prog {
	list := []prog{}
	for _, row := range strings.Split(strings.Trim(rows, "\n"), "\n") {
		expr, want, ok := strings.Cut(row, " => ")
		if !ok {
			continue
		}
		p := prog{src: before + "print(repr(" + expr + "))\n", text: want + "\n"}
		if exc, raised := strings.CutPrefix(want, "!"); raised {
			p.text, p.exc = "", exc
		}
		list = append(list, p)
	}
	return list
}

func wantTicks(t *testing.T, src string, want int64) {
	t.Helper()
	if o := meant(src); o.Ticks != want || o.Code > impl.OutRaised {
		t.Errorf("%s\n costs %d, not %d: %s", src, o.Ticks, want, outTold(o))
	}
}

// wantBudgets runs a program with every budget up to one more than it spends, or,
// when it spends very many, with some of them.
func wantBudgets(t *testing.T, src string) {
	t.Helper()
	whole := meant(src)
	if whole.Code == impl.OutTicks {
		return
	}
	mods := modsOf(src)
	step := 1 + whole.Ticks/500
	for budget := int64(0); budget < whole.Ticks; budget += step {
		o := impl.Meaning(mods, budget)
		if o.Code != impl.OutTicks || o.Ticks != budget || !strings.HasPrefix(whole.Text, o.Text) || o.Exc != "" || len(o.Trace) != 0 {
			t.Fatalf("%s\n with %d of %d: %s", src, budget, whole.Ticks, outTold(o))
		}
	}
	for _, budget := range []int64{whole.Ticks - 1, whole.Ticks, whole.Ticks + 1} {
		if budget < 0 || budget > impl.MaxTicks {
			continue
		}
		o := impl.Meaning(mods, budget)
		if (budget < whole.Ticks) != (o.Code == impl.OutTicks) || budget >= whole.Ticks && !sameOut(o, whole) {
			t.Fatalf("%s\n with %d of %d: %s", src, budget, whole.Ticks, outTold(o))
		}
	}
}

// wantShown runs what Show writes of a program's first module: it means the same
// but for lines.
func wantShown(t *testing.T, src string) {
	t.Helper()
	mods := modsOf(src)
	tree, fault := impl.Parse(mods[0].Src)
	text, ok := impl.Show(tree)
	if fault.Code != 0 || !ok {
		return
	}
	a := impl.Meaning(mods, impl.MaxTicks)
	mods[0].Src = text
	b := impl.Meaning(mods, impl.MaxTicks)
	if !sameOut(withoutLines(a), withoutLines(b)) {
		t.Errorf("%s\n means %s\n shown %s", src, outTold(a), outTold(b))
	}
}

func withoutLines(o impl.Out) impl.Out {
	o.Fault.Line = 0
	o.Trace = slices.Clone(o.Trace)
	for i := range o.Trace {
		o.Trace[i].Line = 0
	}
	return o
}

// allProgs are those of all tables.
func allProgs() []prog {
	return slices.Concat(
		exprProgs(), orderProgs(), valueProgs(), operatorProgs(), compareProgs(), attrProgs(), itemProgs(),
		callProgs(), classProgs(), stmtProgs(), matchProgs(), importProgs(), builtinProgs(), methodProgs(),
		formatProgs(), finallyProgs(), generatorProgs(), withProgs(), raiseProgs(), pastClassProgs(), longReprProgs(), endlessProgs(),
	)
}

func TestP10Programs(t *testing.T) {
	t.Parallel()
	for _, p := range allProgs() {
		wantBudgets(t, p.src)
	}
}

func TestP5ShownMeansTheSame(t *testing.T) {
	t.Parallel()
	for _, p := range allProgs() {
		wantShown(t, p.src)
	}
}
