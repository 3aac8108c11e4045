package tests

import (
	"fmt"
	"math/rand"
	"strings"
	"testing"

	"loop.example/g00009/impl"
)

// foldWriter writes programs with much to improve, always the same for a seed.
type foldWriter struct{ drawer }

func (w foldWriter) expr(deep int) string {
	if deep == 0 || w.r.Intn(5) == 0 {
		return w.one("0", "1", "2", "3", "7", "0", "1", "a", "b", "''", "'x'", "0.0", "1.5", "None", "True", "False")
	}
	x, y := w.expr(deep-1), w.expr(deep-1)
	switch w.r.Intn(8) {
	case 0, 1, 2:
		return "(" + x + w.one(" + ", " - ", " * ", " // ", " % ", " / ", " | ", " & ", " ^ ", " << ", " >> ", " ** ") + y + ")"
	case 3:
		return "(" + w.one("-", "+", "~") + x + ")"
	case 4:
		return "(not " + x + ")"
	case 5:
		return "(" + x + " if " + y + " else " + w.expr(deep-1) + ")"
	case 6:
		return "(" + x + w.one(" and ", " or ") + y + ")"
	}
	return "(" + x + w.one(" < ", " == ", " is ") + y + ")"
}

func (w foldWriter) block(deep int, loop bool, pad string) string {
	var out strings.Builder
	for range 1 + w.r.Intn(3) {
		out.WriteString(w.stmt(deep, loop, pad))
	}
	return out.String()
}

func (w foldWriter) stmt(deep int, loop bool, pad string) string {
	e := w.expr(1 + w.r.Intn(3))
	if deep == 0 {
		list := []string{"a = " + e, e, "pass", "return " + e, "raise", "assert " + e, "a += " + e, "b, c = " + e}
		if loop {
			list = append(list, "break", "continue", "break")
		}
		return pad + w.one(list...) + "\n"
	}
	in := func(loop bool) string { return w.block(deep-1, loop, pad+" ") }
	switch w.r.Intn(8) {
	case 0:
		return pad + "if " + e + ":\n" + in(loop)
	case 1:
		return pad + "if " + e + ":\n" + in(loop) + pad + "else:\n" + in(loop)
	case 2:
		return pad + "while " + e + ":\n" + in(true) + w.one("", pad+"else:\n"+in(loop))
	case 3:
		return pad + "for a in " + e + ":\n" + in(true) + w.one("", pad+"else:\n"+in(loop))
	case 4:
		return pad + "try:\n" + in(loop) + pad + "except A:\n" + in(loop) + w.one("", pad+"else:\n"+in(loop)) + w.one("", pad+"finally:\n"+in(loop))
	case 5:
		return pad + "with a:\n" + in(loop)
	case 6:
		return pad + "match " + e + ":\n" + pad + " case 1 if " + w.expr(1) + ":\n" + w.block(deep-1, loop, pad+"  ") + pad + " case _:\n" + w.block(deep-1, loop, pad+"  ")
	}
	return w.stmt(0, loop, pad)
}

func foldProgram(seed int64) string {
	w := foldWriter{drawer{rand.New(rand.NewSource(seed))}}
	return "def f():\n" + w.block(1+w.r.Intn(3), false, " ") + "[" + w.expr(2) + " for a in b if " + w.expr(2) + "]\nlambda: " + w.expr(3) + "\n"
}

func TestP12DrawnPrograms(t *testing.T) {
	t.Parallel()
	shorter := 0
	for seed := range int64(150) {
		c := codeOf(t, foldProgram(seed))
		if !impl.CodeOk(c) {
			t.Fatalf("%s\n can't be run", foldProgram(seed))
		}
		wantSlowly(t, c)
		if impl.Measure(impl.Improve(c)) < impl.Measure(c) {
			shorter++
		}
	}
	if shorter < 110 {
		t.Error("few were improved:", shorter)
	}
}

// changedCode is code with a few instructions taken out, put in, moved, or with
// other Args; it may be none that can be run.
func changedCode(r *rand.Rand, c impl.Code) impl.Code {
	out := copyCode(c)
	for range 1 + r.Intn(4) {
		p := &out.Parts[r.Intn(len(out.Parts))]
		n := len(p.Instrs)
		if n == 0 {
			continue
		}
		i := r.Intn(n)
		switch r.Intn(6) {
		case 0:
			takeInstr(p, i)
		case 1:
			putInstr(p, i, impl.Instr{Op: impl.IJump, Arg: int64(r.Intn(n + 1))})
		case 2:
			putInstr(p, i, impl.Instr{Op: impl.IConst})
			putInstr(p, i+1, impl.Instr{Op: []int64{impl.IPop, impl.IPop, impl.INot}[r.Intn(3)]})
		case 3:
			putInstr(p, i, impl.Instr{Op: impl.IConst})
			putInstr(p, i+1, impl.Instr{Op: impl.IFalse, Arg: int64(r.Intn(n + 2))})
		case 4:
			if hasAim(p.Instrs[i].Op) {
				p.Instrs[i].Arg = int64(r.Intn(n))
			}
		case 5:
			putInstr(p, i, p.Instrs[r.Intn(n)])
		}
	}
	return out
}

func takeInstr(p *impl.Part, at int) {
	m := slowImprover{*p}
	m.take(at, 1)
	*p = m.p
}

// putInstr puts an instruction ahead of another one; what aimed at that aims at it.
func putInstr(p *impl.Part, at int, in impl.Instr) {
	list := append([]impl.Instr{}, p.Instrs[:at]...)
	list = append(append(list, in), p.Instrs[at:]...)
	for i := range list {
		if i != at && hasAim(list[i].Op) && list[i].Arg > int64(at) {
			list[i].Arg++
		}
	}
	p.Instrs = list
}

func copyCode(c impl.Code) impl.Code {
	out := impl.Code{}
	for _, p := range c.Parts {
		q := p
		q.Params = append(make([]impl.Param, 0, len(p.Params)+3), p.Params...)
		q.Names = append(make([]impl.NameHow, 0, len(p.Names)+3), p.Names...)
		q.Consts = append(make([]impl.Const, 0, len(p.Consts)+3), p.Consts...)
		q.Words = append(make([]string, 0, len(p.Words)+3), p.Words...)
		q.Instrs = append(make([]impl.Instr, 0, len(p.Instrs)+3), p.Instrs...)
		q.Pats = make([]impl.Tree, 0, len(p.Pats)+3)
		for _, tree := range p.Pats {
			q.Pats = append(q.Pats, copyTree(tree))
		}
		out.Parts = append(out.Parts, q)
	}
	return out
}

func TestP12ChangedCode(t *testing.T) {
	t.Parallel()
	r := rand.New(rand.NewSource(12))
	good := 0
	for seed := range int64(120) {
		c := codeOf(t, foldProgram(seed%300))
		for range 8 {
			d := changedCode(r, c)
			if !impl.CodeOk(d) {
				if len(impl.Improve(d).Parts) != 0 || impl.Measure(d) != -1 {
					t.Fatal("code that can't be run is taken:", codeTold(d))
				}
				continue
			}
			good++
			wantSlowly(t, d)
		}
	}
	if good < 200 {
		t.Error("little can be run:", good)
	}
}

// A row of n jumps, each to the one behind the next, and rings of them.
func TestP12ManyJumps(t *testing.T) {
	for _, n := range []int{3, 10, 1000, 29990} {
		var row, ring strings.Builder
		for i := range n {
			fmt.Fprintf(&row, "l%d: Jump>l%d ", i, min(i+2, n))
			fmt.Fprintf(&ring, "l%d: Jump>l%d ", i, (i+2)%n)
		}
		fmt.Fprintf(&row, "l%d: Load=a Return", n)
		wantBetter2(t, row.String(), "Load=a Return")
		c := moduleOf(ring.String())
		if !impl.CodeOk(c) {
			t.Fatal("a ring can't be run")
		}
		// Each is aimed at, and none has an end.
		if got := wantImproved(t, c); !sameCode(got, c) {
			t.Error(n, impl.Measure(got))
		}
	}
}

// Many that jump into one long row, which ends or goes round.
func TestP12LongRowsOfJumps(t *testing.T) {
	const n = 9000
	var falses, row strings.Builder
	for i := range n {
		fmt.Fprintf(&falses, "Load=a False>l%d ", n-1-i%3)
		fmt.Fprintf(&row, "l%d: Jump>l%d ", i, i-1)
	}
	ends := falses.String() + "Load=a Return l-1: Load=b Return " + row.String()
	got := wantImproved(t, moduleOf(ends))
	if impl.Measure(got) != 2*n+4 {
		t.Error(impl.Measure(got))
	}
	round := falses.String() + "Load=a Return l-1: " + strings.Replace(row.String(), "l0: Jump>l-1", fmt.Sprintf("l0: Jump>l%d", n-1), 1)
	if c := moduleOf(round); !sameCode(wantImproved(t, c), c) {
		t.Error("a row that goes round is changed")
	}
}

// wantBetter2 is wantBetter for what is too long for the slow way.
func wantBetter2(t *testing.T, before string, after string) {
	t.Helper()
	got := wantImproved(t, moduleOf(before)).Parts[0]
	if told := instrsTold(assembled(stepsOf(after))); instrsTold(got) != told {
		t.Errorf("%.80s becomes %.80s, not %s", before, instrsTold(got), told)
	}
}

// Much that is improved one by one, from the first place and from the last.
func TestP12ManyRules(t *testing.T) {
	for _, n := range []int{1, 100, 6000} {
		wantBetter2(t, strings.Repeat("Const=1 Pop ", n)+"Load=a Return", "Load=a Return")
		wantBetter2(t, "Load=a "+strings.Repeat("Dup ", n)+strings.Repeat("Pop ", n)+"Return", "Load=a Return")
		wantBetter2(t, "Const=1 "+strings.Repeat("Not Not ", n)+"Return", "Const=True Return")
		wantBetter2(t, "Const=1 "+strings.Repeat("Const=1 Binary=6 ", n)+"Return", fmt.Sprintf("Const=%d Return", n+1))
		wantBetter2(t, strings.Repeat("Const=1 ", n+1)+strings.Repeat("Binary=6 ", n)+"Return", fmt.Sprintf("Const=%d Return", n+1))
		wantBetter2(t, "Load=a Return "+strings.Repeat("Load=a Return ", n), "Load=a Return")
	}
	var many strings.Builder
	for i := range 9000 {
		fmt.Fprintf(&many, "Const=0 False>l%d l%d: ", i, i)
	}
	wantBetter2(t, many.String()+"Load=a Return", "Load=a Return")
}

func TestP12Measure(t *testing.T) {
	for src, want := range map[string]int64{"": 2, "a": 5, "[i for i in a if i]": 16, "def f(): pass\nclass A: pass\n": 16, "lambda: lambda: 1": 11} {
		if got := impl.Measure(codeOf(t, src)); got != want {
			t.Errorf("%s: %d, not %d", src, got, want)
		}
	}
	if impl.Measure(impl.Code{}) != -1 || impl.Measure(impl.Code{Parts: []impl.Part{{}}}) != -1 {
		t.Error("no code is measured")
	}
	c := codeOf(t, "a")
	c.Parts[0].Line = 0
	if impl.Measure(c) != -1 || len(impl.Improve(c).Parts) != 0 {
		t.Error("a line of 0")
	}
}

// All of the programs of the tests, compiled and improved.
func TestP12Programs(t *testing.T) {
	t.Parallel()
	check := func(src string) {
		tree, fault := impl.Parse(src)
		c, other := impl.Compile(tree)
		if fault.Code != 0 || other.Code != 0 {
			return
		}
		if !impl.CodeOk(c) {
			t.Fatalf("%s\n can't be run", src)
		}
		wantImproved(t, c)
	}
	for _, p := range allProgs() {
		for _, m := range modsOf(p.src) {
			check(m.Src)
		}
	}
	for i := range int64(120) {
		check(drawnProgram(i))
		check(flowProgram(i))
		check(oddProgram(i))
		check(newScopeWriter(i).program())
		nest, _ := nestProgram(i)
		check(nest)
		w := newRowWriter(i + 40000)
		check(laid(w.r, w.write("file", 3+int(i%6))))
	}
}
