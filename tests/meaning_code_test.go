package tests

import (
	"fmt"
	"slices"
	"strings"
	"testing"

	"loop.example/g00009/impl"
)

func TestP10Faults(t *testing.T) {
	deep := strings.Builder{}
	for i := range 39 {
		deep.WriteString(strings.Repeat(" ", i) + "if a:\n")
	}
	deep.WriteString(strings.Repeat(strings.Repeat(" ", 39)+"a\n", 300))
	for _, c := range []struct {
		src   string
		fault impl.Fault
	}{
		{"\xff", impl.Fault{Code: impl.FaultText}},
		{"a\r\n", impl.Fault{Code: impl.FaultText}},
		{"print(1)\n\tb", impl.Fault{Code: impl.FaultIndent, Line: 2}},
		{"print(1)\na = (\n", impl.Fault{Code: impl.FaultBracket, Line: 2}},
		{"'a", impl.Fault{Code: impl.FaultString, Line: 1}},
		{"0a", impl.Fault{Code: impl.FaultNumber, Line: 1}},
		{"a $", impl.Fault{Code: impl.FaultChar, Line: 1}},
		{"1" + strings.Repeat("0", 2000), impl.Fault{Code: impl.FaultLarge, Line: 1}},
		{"\n1 +", impl.Fault{Code: impl.FaultForm, Line: 2}},
		{"break", impl.Fault{Code: impl.FaultForm, Line: 1}},
		{"1 = 2", impl.Fault{Code: impl.FaultTarget, Line: 1}},
		{strings.Repeat("a;", 4000), impl.Fault{Code: impl.FaultDeep}},
		{"print(1)\nnonlocal x", impl.Fault{Code: impl.FaultScope, Line: 2}},
		{"[(yield) for i in a]", impl.Fault{Code: impl.FaultForm, Line: 1}},
		{"def f(): [(yield) for i in a]", impl.Fault{Code: impl.FaultScope, Line: 1}},
		{deep.String(), impl.Fault{Code: impl.FaultForm}},
	} {
		o := meaning([]impl.Mod{{Name: "m", Src: c.src}}, 100)
		if !sameOut(o, impl.Out{Code: impl.OutFault, Fault: c.fault}) {
			t.Errorf("%.40q: %s", c.src, outTold(o))
		}
		mods := []impl.Mod{{Name: "a", Src: "print('b')\ntry: import bad\nexcept: print('no')\nfinally: print('no')\n"}, {Name: "fine", Src: ""}, {Name: "bad", Src: c.src}}
		o = meaning(mods, 100)
		if !sameOut(o, impl.Out{Code: impl.OutFault, Text: "b\n", Ticks: 3, Mod: 2, Fault: c.fault}) {
			t.Errorf("imported %.40q: %s", c.src, outTold(o))
		}
		mods[0].Src = "import fine\nif 0: import bad\nprint('end')"
		if o = meaning(mods, 100); !sameOut(o, impl.Out{Text: "end\n", Ticks: 3}) {
			t.Errorf("never executed %.40q: %s", c.src, outTold(o))
		}
	}
	within := "def g():\n  yield 1\n  import bad\ntry: print(list(g()))\nfinally: print('no')\n# module bad\n)"
	if o := meant(within); o.Code != impl.OutFault || o.Mod != 1 || o.Text != "" || o.Fault != (impl.Fault{Code: impl.FaultBracket, Line: 1}) {
		t.Error(outTold(o))
	}
}

func TestP10Large(t *testing.T) {
	whole := strings.Repeat("a", impl.MaxOut)
	for _, c := range []struct {
		src, text string
		code      int64
		ticks     int64
	}{
		{"print('a' * 16383)", whole[:16383] + "\n", impl.OutEnd, 1 + 511 + 512},
		{"print('a' * 16384, end='')", whole, impl.OutEnd, 1 + 512 + 512},
		{"print('a' * 16384)", "", impl.OutLarge, 1 + 512 + 512},
		{"x = 'a' * 8192\nprint(x, end='')\nprint(x, end='')\nprint('', end='')\nx", whole, impl.OutEnd, 5 + 3*256},
		{"x = 'a' * 8192\nprint(x, end='')\nprint(x, end='')\ntry: print('a', end='')\nfinally: print('no')", whole, impl.OutLarge, 5 + 3*256},
		{"x = 'a' * 8192\nprint(x, end='')\nprint(x)\nx", whole[:8192], impl.OutLarge, 3 + 3*256},
		{"x = 'a' * 8192\nprint(x, end='')\nprint(x, x)\nx", whole[:8192], impl.OutLarge, 3 + 256*2 + 512},
		{"x = ''\ndef g():\n  while True:\n    print('0123456789')\n    yield\nfor y in g(): pass", strings.Repeat("0123456789\n", 1489), impl.OutLarge, 4 + 1 + 1489*5 + 3},
	} {
		if o := meant(c.src); o.Code != c.code || o.Text != c.text || o.Ticks != c.ticks || o.Exc != "" || len(o.Trace) > 0 {
			t.Errorf("%s\n%s, not %d", c.src, outTold(o), c.ticks)
		}
	}
}

func TestP10Args(t *testing.T) {
	m := impl.Mod{Name: "main", Src: "print(1)"}
	many := []impl.Mod{}
	for i := range impl.MaxMods {
		many = append(many, impl.Mod{Name: fmt.Sprint("m", i), Src: fmt.Sprintf("print(%d)\nif %d < 19: import m%d", i, i, i+1)})
	}
	if o := meaning(many, 100); o.Code != impl.OutEnd || strings.Count(o.Text, "\n") != impl.MaxMods {
		t.Error(outTold(o))
	}
	long := strings.Repeat("n", impl.MaxName)
	for _, name := range []string{"a", "_", "A9_", long, "print", "matched", "__main__"} {
		if o := meaning([]impl.Mod{{Name: name, Src: "print(__name__)"}}, 10); !sameOut(o, impl.Out{Text: "__main__\n", Ticks: 1}) {
			t.Errorf("%q: %s", name, outTold(o))
		}
	}
	if o := meaning([]impl.Mod{m}, impl.MaxTicks); !sameOut(o, impl.Out{Text: "1\n", Ticks: 1}) {
		t.Error(outTold(o))
	}
	if o := meaning([]impl.Mod{m}, 0); !sameOut(o, impl.Out{Code: impl.OutTicks}) {
		t.Error(outTold(o))
	}
	type call struct {
		mods   []impl.Mod
		budget int64
	}
	calls := []call{{nil, 10}, {[]impl.Mod{}, 10}, {append(slices.Clone(many), m), 10}, {[]impl.Mod{m, m}, 10}, {[]impl.Mod{m, {Name: "b"}, {Name: "main"}}, 10}}
	for _, budget := range []int64{-1, impl.MaxTicks + 1, -1 << 63, 1<<63 - 1} {
		calls = append(calls, call{[]impl.Mod{m}, budget})
	}
	for _, name := range []string{"", " ", "a ", " a", "a\n", "9", "9a", "a.b", "a-b", "é", "\xff", "def", "match", "case", "None", "a#", "'a'", "(a)", long + "n", "a;", "a\\\n"} {
		calls = append(calls, call{[]impl.Mod{{Name: name, Src: "print(1)"}}, 10}, call{[]impl.Mod{m, {Name: name}}, 10})
	}
	for _, c := range calls {
		if o := meaning(c.mods, c.budget); !sameOut(o, impl.Out{Code: impl.OutArgs}) {
			t.Errorf("%v %d: %s", c.mods, c.budget, outTold(o))
		}
	}
}

// atDepth does something within so many frames, that of the module being one.
func atDepth(n int, before string, what string) string {
	return before + fmt.Sprintf("\ndef down(n):\n  if n: return down(n - 1)\n  %s\ndown(%d)\n", what, n-2)
}

func TestP10Depth(t *testing.T) {
	before := "def f(): pass\ndef g(): yield\nclass A:\n  def __repr__(s): return 'A'\n  def __eq__(s, o): return True\nclass P: x = property(lambda s: 1)\ni = g()\nj = g()\nnext(j)\n"
	for _, c := range []struct {
		what  string
		takes int
	}{
		{"pass", 0},
		{"g()", 0},
		{"(i for i in [])", 0},
		{"print(set(), 'text', 5, range(3), print)", 0},
		{"print([])", 1},
		{"print(())", 1},
		{"print({})", 1},
		{"[] == []", 1},
		{"a = []\n  a == a", 0},
		{"[1] == [1, 2]", 0},
		{"{1} == {1}", 0},
		{"{1} <= {1}", 0},
		{"1 in [1, 2]", 0},
		{"sorted([2, 1])", 0},
		{"str(ValueError(5))", 0},
		{"P()", 0},
		{"i.close()", 0},
		{"f()", 1},
		{"(lambda: 1)()", 1},
		{"next(i)", 1},
		{"i.send(None)", 1},
		{"j.close()", 1},
		{"[i for i in []]", 1},
		{"{i for i in []}", 1},
		{"{i: i for i in []}", 1},
		{"list(i for i in [])", 1},
		{"[j for i in [1] for j in [2]]", 1},
		{"[[j for j in [2]] for i in [1]]", 2},
		{"list(i for i in (j for j in [1]))", 2},
		{"class B: pass", 1},
		{"class B:\n    class C: pass", 2},
		{"import m", 1},
		{"repr(A())", 1},
		{"repr([A()])", 2},
		{"A() == 1", 1},
		{"[A()] == [1]", 2},
		{"1 in [A()]", 1},
		{"P().x", 1},
		{"repr([1])", 1},
		{"repr((1,))", 1},
		{"repr({1: 2})", 1},
		{"repr({1})", 1},
		{"repr([[]])", 2},
		{"repr([[1]])", 2},
		{"repr([[1], [[2]]])", 3},
		{"repr({1: [2]})", 2},
		{"repr(ValueError(1))", 1},
		{"repr(ValueError())", 1},
		{"repr(ValueError([1]))", 2},
		{"str(ValueError(1, 2))", 1},
		{"[1] == [2]", 1},
		{"(1,) == (1,)", 1},
		{"{1: 2} == {1: 2}", 1},
		{"[[1]] == [[2]]", 2},
		{"[1] < [2]", 1},
		{"[[1]] < [[2]]", 2},
		{"() < (1,)", 1},
		{"map(lambda x: x, [1])", 1},
		{"sorted([2, 1], key=lambda x: (lambda: x)())", 2},
	} {
		last := impl.MaxCalls - c.takes
		fine := meant(atDepth(last, before, c.what) + "# module m\n")
		over := meant(atDepth(last+1, before, c.what) + "# module m\n")
		if fine.Code != impl.OutEnd {
			t.Errorf("%s within %d: %s", c.what, last, outTold(fine))
		}
		if over.Code != impl.OutRaised || over.Exc != "RecursionError" {
			t.Errorf("%s within %d: %s", c.what, last+1, outTold(over))
		}
	}
}

func TestP10DepthOfThings(t *testing.T) {
	for _, c := range []struct{ a, b, ask string }{
		{"[a]", "[b]", "repr(a)"}, {"(a,)", "(b,)", "repr(a)"}, {"{1: a}", "{1: b}", "str(a)"}, {"ValueError(a)", "b", "repr(a)"},
		{"[a]", "b", "f'{a}'"}, {"[a]", "b", "print(a)"}, {"[a]", "b", "print(f'{a!r:5}')"},
		{"[a]", "[b]", "a == b"}, {"(a,)", "(b,)", "a != b"}, {"{1: a}", "{1: b}", "a == b"}, {"[a]", "[b]", "a < b"}, {"(a,)", "(b,)", "a >= b"},
		{"[a]", "[b]", "max(a, b)"}, {"[a]", "[b]", "[b].index(a)"},
	} {
		for n := 46; n < 53; n++ {
			o := meant(fmt.Sprintf("a, b = 1, 2\nfor i in range(%d): a, b = %s, %s\ntry: %s\nexcept ValueError: pass\n", n, c.a, c.b, c.ask))
			if raised := o.Exc == "RecursionError"; raised != (n >= impl.MaxCalls) || o.Code > impl.OutRaised {
				t.Errorf("%s %d times, %s: %s", c.a, n, c.ask, outTold(o))
			}
		}
	}
	// Modules in one another, of which there are too few to be too many.
	mods := []impl.Mod{{Name: "main"}}
	for i := 1; i < impl.MaxMods; i++ {
		mods = append(mods, impl.Mod{Name: fmt.Sprint("m", i), Src: fmt.Sprintf("import m%d", i+1)})
	}
	mods[len(mods)-1].Src = "print('last')"
	for n := 25; n < 35; n++ {
		mods[0].Src = fmt.Sprintf("def f(n):\n  if n: f(n - 1)\n  else: import m1\nf(%d)\n", n)
		o := meaning(mods, 1000)
		if fits := 1 + n + 1 + impl.MaxMods - 1; (fits <= impl.MaxCalls) != (o.Text == "last\n") || o.Text == "" && o.Exc != "RecursionError" {
			t.Errorf("%d: %s", n, outTold(o))
		}
	}
}

func TestP10Limits(t *testing.T) {
	wantProgs(t, rowsOf("t = (0,) * 498\nu = (0,) * 499\n", `
{(0,) * 999: 1}[(0,) * 999] => 1
{(0,) * 1000: 1} => !TypeError
len({((0,) * 998,)}) => 1
{((0,) * 999,)} => !TypeError
len({(t, t)}) => 1
{(u, u)} => !TypeError
(0,) * 1000 in {} => !TypeError
(2 ** 4095 - 1) * 2 + 1 == 2 ** 4095 + (2 ** 4095 - 1) => True
(2 ** 4095 - 1) * 2 + 2 => !OverflowError
-(2 ** 4095) - 2 ** 4095 => !OverflowError
~((2 ** 4095 - 1) * 2 + 1) => !OverflowError
len(repr((2 ** 4095 - 1) * 2 + 1)) => 1234
len('a' * 16384) => 16384
'a' * 16385 => !OverflowError
len('a' * 16383 + 'b') => 16384
'a' * 16384 + 'b' => !OverflowError
len('\u00e9' * 8192) => 8192
'\u00e9' * 8193 => !OverflowError
len(repr('a' * 16382)) => 16384
repr('a' * 16383) => !OverflowError
len(str('a' * 16384)) => 16384
len(repr(['a' * 16380])) => 16384
repr(['a' * 16381]) => !OverflowError
len(sorted(range(2000))) => 2000
sorted(range(2001)) => !OverflowError
list(range(2001)).sort() => !OverflowError
list(range(2000)).sort() => None
len(list(range(2001))) => 2001
max(range(2001)) => 2000
2.0 ** 1000 == 2 ** 1000 => True
2.0 ** 1001 => !ValueError
`))
	edge := "class A:\n  def __repr__(self):\n    print('asked')\n    return ''\ns, t = 'a' * 16380, 'a' * 16382\n"
	wantProgs(t, []prog{
		{edge + "try: repr([s, s, s, t, A()])\nexcept OverflowError: print('over')\n", "asked\nover\n", ""},
		{edge + "try: repr([s + 'a', s, s, t, A()])\nexcept OverflowError: print('over')\n", "over\n", ""},
		{edge + "try: repr((s, s, s, t, A()))\nexcept OverflowError: print('over')\n", "asked\nover\n", ""},
		{edge + "try: repr(ValueError(s + 'a', s, s, t, A()))\nexcept OverflowError: print('over')\n", "over\n", ""},
		{"s = 'a' * 16000\nclass A:\n  def __repr__(self):\n    print('asked')\n    return ''\ntry: repr([s, s, s, s, A()])\nexcept OverflowError: print('four')\ntry: repr([s, s, s, s, s, A()])\nexcept OverflowError: print('five')\n", "asked\nfour\nfive\n", ""},
		{"s = 'a' * 16000\nclass A:\n  def __repr__(self):\n    print('asked')\n    return ''\nd = {1: s, 2: s, 3: s, 4: s, 5: A()}\ntry: repr(d)\nexcept OverflowError: print('four')\nd = {1: s, 2: s, 3: s, 4: s, s: s, 5: A()}\ntry: repr(d)\nexcept OverflowError: print('five')\n", "asked\nfour\nfive\n", ""},
	})
}

// longReprProgs write things of more than MaxText bytes in other things: these
// are no whole texts, so what stands behind them is asked too.
func longReprProgs() []prog {
	before := "class A:\n  def __repr__(self):\n    print('asked')\n    return 'A'\na = A()\ns, t = 'a' * 16000, 'b' * 400\nl = [s, t]\nm = (s, t)\n"
	list := []prog{}
	over := func(thing string, text string) {
		list = append(list, prog{before + "try: repr(" + thing + ")\nexcept OverflowError: print('large')\n", text, ""})
	}
	for _, thing := range []string{
		"[l, a]", "(l, a)", "[m, a]", "{1: l, 2: a}", "{m: a}", "{m, a}", "ValueError(l, a)", "slice(l, a, 1)", "[ValueError(s, t), a]", "[slice(s, t, 1), a]",
		"[{s, t}, a]", "[{s: t}, a]", "[{1: s, 2: t}, a]", "[[[l]], a]", "[(m,), a]", "[((l,),), a]", "[l, l, l, a]", "[(l, l, l), a]", "[l + [a]]", "(m + (a,),)",
	} {
		over(thing, "asked\nlarge\n")
	}
	for _, thing := range []string{
		"[l, l, l, l, a]", "(l, l, l, l, a)", "[(l, l, l, l), a]", "{1: l, 2: l, 3: l, 4: l, 5: a}", "{1: [l, l, l, l], 2: a}", "[([l, l, l, m + m],), a]", "[ValueError(m, m, m, m), a]",
	} {
		over(thing, "large\n")
	}
	text := before + "class B:\n  def __repr__(self): return repr(l)\n"
	return append(list,
		prog{text + "try: repr([B(), a])\nexcept OverflowError: print('large')\n", "large\n", ""},
		prog{before + "try: print(l)\nexcept OverflowError: print('large')\ntry: str([l, a])\nexcept OverflowError: print('larger')\n", "large\nasked\nlarger\n", ""},
		prog{before + "try: f'{[l, a]}'\nexcept OverflowError: print('large')\ntry: f'{ValueError(l, a)!r:9}'\nexcept OverflowError: print('larger')\n", "asked\nlarge\nasked\nlarger\n", ""},
		prog{before + "try: str(ValueError(l, a))\nexcept OverflowError: print('large')\ntry: str(ValueError(l))\nexcept OverflowError: print('larger')\n", "asked\nlarge\nlarger\n", ""},
	)
}

func TestP10ReprsInReprs(t *testing.T) {
	wantProgs(t, longReprProgs())
	wantTicks(t, "x = ['a' * 16000, 'b' * 400]\ntry: repr(x)\nexcept OverflowError: pass\n", 1+500+12+2+2+500+12+1)
	wantTicks(t, "x = ['a' * 16000, 'b' * 400]\ntry: repr([x])\nexcept OverflowError: pass\n", 1+500+12+2+2+1+500+12+512+1)
	edge := "class A:\n  def __repr__(self):\n    print('asked')\n    return 'A'\na = 'a' * 16380\ntry: repr([%s, A()])\nexcept OverflowError: print('large')\n"
	for _, c := range []struct {
		thing string
		asked bool
	}{
		{"[a, a, a, a]", true},
		{"[a, a, a, a + 'a']", false},
		{"([a, a, a, a[3:]],)", true},
		{"([a, a, a, a[2:]],)", false},
		{"{1: [a, a, a, a[5:]]}", true},
		{"{1: [a, a, a, a[4:]]}", false},
	} {
		p := prog{src: fmt.Sprintf(edge, c.thing), text: "large\n"}
		if c.asked {
			p.text = "asked\nlarge\n"
		}
		wantProg(t, p)
	}
}

func TestP15PlainLimits(t *testing.T) {
	item := "'" + strings.Repeat("a", 16000) + "'"
	five := strings.Join([]string{item, item, item, item, item}, ", ")
	if o := meant("raise ValueError(['a' * 16000] * 10)"); o.Exc != "ValueError: ["+five+"]" || o.Ticks != 1+500+1+10 {
		t.Error(len(o.Exc), o.Code, o.Ticks)
	}
	if o := meant("raise ValueError(*['a' * 16000] * 10)"); o.Exc != "ValueError: ("+five+")" {
		t.Error(len(o.Exc), o.Code)
	}
	for n := 45; n < 60; n++ {
		o := meant(fmt.Sprintf("a = 1\nfor i in range(%d): a = [a]\nraise ValueError(a)\n", n))
		want := strings.Repeat("[", n) + "1" + strings.Repeat("]", n)
		if n >= impl.MaxCalls {
			want = strings.Repeat("[", impl.MaxCalls) + "..." + strings.Repeat("]", impl.MaxCalls)
		}
		if o.Exc != "ValueError: "+want {
			t.Errorf("%d: %s", n, o.Exc)
		}
	}
	o := meant("a = [1]\nfor i in range(45): a = [a, a]\nraise ValueError(a)\n")
	if o.Code != impl.OutRaised || len(o.Exc) > 50*65536 {
		t.Error(o.Code, len(o.Exc))
	}
	for n := 45; n < 60; n++ {
		want := "ValueError: in"
		if n >= impl.MaxCalls {
			want = "ValueError: ..."
		}
		if o := meant(fmt.Sprintf("e = ValueError('in')\nfor i in range(%d): e = ValueError(e)\nraise e\n", n)); o.Exc != want {
			t.Errorf("%d: %s", n, o.Exc)
		}
	}
	o = meant("e = ValueError(1)\nfor i in range(3000): e = ValueError(e)\nraise e\n")
	if o.Exc != "ValueError: ..." {
		t.Error(o.Exc)
	}
}
