package tests

import (
	"fmt"
	"math/rand"
	"strings"
	"testing"

	"loop.example/g00009/impl"
)

// drawnNames are bound to a value of every kind.
const drawnNames = `
def fn(x=1, *y, **z): return (x, y, z)
def gen(n=2):
  try:
    for i in range(n):
      x = yield i
  finally: cell[0] += 1
cell = [0]
class A:
  k = 1
  __match_args__ = ('k', 'own')
  def __init__(self, own=2): self.own = own
  def __add__(self, o): return ('add', o)
  def __radd__(self, o): return NotImplemented
  def __lt__(self, o): return True
  def __call__(self, *a): return a
  def __getitem__(self, i): return i
  def __setitem__(self, i, v): self.own = v
  def __len__(self): return 3
  def __iter__(self): return iter((1, 2))
  def __contains__(self, x): return x == 1
  def __enter__(self): return self
  def __exit__(self, c, e, t): return self.own
  @property
  def p(self): return self.own
  @classmethod
  def c(cls, *a): return cls
  @staticmethod
  def s(*a): return a
class B(A):
  def __eq__(self, o): return NotImplemented
  def __repr__(self): return 'B!'
  def __bool__(self): return self.own
  def __getattr__(self, n): return n
class E(Exception): pass
class N:
  n = 0
  def __iter__(self): return self
  def __next__(self):
    self.n += 1
    if self.n > 3: raise StopIteration(self.n)
    return self.n
l = [1, 2.5, 'x', None, (1, 2)]
l.append(l)
d = {'k': 1, 2: [3], (4,): {5: 6}}
s = {1, 'a', (2, 3)}
t = (0, True, 'tt', [7], ())
i = iter([1, 2, 3])
g = gen()
o = A()
b = B(True)
e = E('arg', 1)
n = N()
big = 2 ** 200
f = 1.5
nan = float('nan')
x = 'text'
r = range(5)
z = None
q = slice(1, 3)
`

// drawer writes expressions and statements at random, most of which can be done.
type drawer struct{ r *rand.Rand }

func (w drawer) one(list ...string) string { return list[w.r.Intn(len(list))] }

func (w drawer) name() string {
	return w.one("l", "d", "s", "t", "i", "g", "o", "b", "e", "n", "big", "f", "nan", "x", "r", "z", "q", "A", "B", "E", "fn", "gen", "len", "0", "1", "-1", "2", "3.0", "''", "'k'", "True", "[]", "()", "{}", "set()", "gen()", "A()", "int", "str", "ValueError", "NotImplemented", "print", "type", "cell", "(lambda *a: a)")
}

func (w drawer) expr(left int) string {
	if left == 0 {
		return w.name()
	}
	a, b := w.expr(w.r.Intn(left)), w.expr(w.r.Intn(left))
	switch w.r.Intn(24) {
	case 0, 1, 2:
		return "(" + a + " " + w.one("+", "-", "*", "/", "//", "%", "**", "<<", ">>", "&", "|", "^") + " " + b + ")"
	case 3, 4:
		return "(" + a + " " + w.one("<", "<=", ">", ">=", "==", "!=", "in", "not in", "is", "is not") + " " + b + ")"
	case 5:
		return "(" + w.one("-", "+", "~", "not ") + "(" + a + "))"
	case 6:
		return "(" + a + " " + w.one("and", "or") + " " + b + ")"
	case 7, 8:
		return "(" + a + ")." + w.one("k", "own", "p", "c", "s", "args", "value", "__name__", "start", "upper()", "split()", "keys()", "items()", "copy()", "pop()", "index("+b+")", "count("+b+")", "get("+b+")", "join("+b+")", "find("+b+")", "append("+b+")", "extend("+b+")", "send("+b+")", "throw("+b+")", "close()", "add("+b+")", "update("+b+")", "setdefault("+b+")", "sort()", "reverse()", "insert(0, "+b+")", "remove("+b+")", "nothing")
	case 9, 10:
		return "(" + a + ")[" + w.one(b, b, ":", b+":", ":"+b, "::"+b, "1:", b+", "+b) + "]"
	case 11, 12, 13, 14:
		return w.one("len", "repr", "str", "bool", "int", "float", "list", "tuple", "set", "dict", "iter", "sum", "min", "max", "abs", "sorted", "reversed", "enumerate", "any", "all", "type", "ord", "chr", "next", "range", "slice", "fn", "A", "E", "print", "gen", "property", "zip") + "(" + w.one(a, a, a, a+", "+b, "*"+a, "**"+a, "") + ")"
	case 15:
		return w.one("isinstance", "issubclass", "getattr", "hasattr", "divmod", "map", "filter", "zip", "super", "next", "sum", "min", "setattr") + "(" + a + ", " + b + ")"
	case 16:
		return "(" + a + ")(" + w.one(b, "", "*"+b, "**"+b, "x="+b) + ")"
	case 17:
		return w.one("["+a+", "+b+"]", "("+a+", "+b+")", "{"+a+", "+b+"}", "{"+a+": "+b+"}", "[*"+a+"]", "{**"+a+"}", "{*"+a+"}")
	case 18, 19:
		return w.one("["+b+" for y in "+a+"]", "{y for y in "+a+" if "+b+"}", "{y: "+b+" for y in "+a+"}", "list("+b+" for y in "+a+")", "("+b+" for y in "+a+")")
	case 20:
		return "(" + a + " if " + b + " else " + w.name() + ")"
	case 21:
		return "(lambda y=" + a + ": " + b + ")()"
	case 22:
		return "(y := " + a + ")"
	}
	if strings.ContainsAny(a, "'\"\\#\n{}") {
		a = w.one("l", "x", "f", "big", "b")
	}
	return "f'{(" + a + ")" + w.one("", "!r", "!s", ":5", ":>8", ":d", ":.2f") + "}'"
}

func (w drawer) target() string {
	return w.one("y", "y", "l[0]", "d["+w.name()+"]", "o.own", "A.k", "y, h", "y, *h", "[*y]", "l[1:2]", "o[0]", "cell[0]")
}

func (w drawer) stmt() string {
	e := w.expr(2)
	switch w.r.Intn(16) {
	case 0, 1:
		return w.target() + " = " + e
	case 2:
		return w.one("y", "l[0]", "o.own", "d['k']", "cell[0]", "x", "l", "t", "s") + " " + w.one("+=", "-=", "*=", "|=", "//=") + " " + e
	case 3:
		return "for " + w.one("y", "y, h", "y, *h", "l[0]", "o.own") + " in " + e + ": print(y)"
	case 4:
		return "del " + w.one("y", "l[0]", "d['k']", "o.own", "l[1:]", "l[::2]", "A.k")
	case 5:
		return "raise " + e
	case 6:
		return "with " + w.one(e, "o", "b") + " as y: print(y, " + e + ")"
	case 7, 8:
		return "match " + e + ":\n    case " + w.one("0", "None", "[y, *h]", "{'k': y, **h}", "A(y)", "A(k=1)", "int(y) | str(y)", "(y, h)", "E(args=y)", "B(y, h)", "A.k", "y if "+w.expr(1)) + ": print('fits')\n    case _: print('no')"
	case 9:
		return "while cell[0] < 3: cell[0] += " + w.one("1", "1", e)
	case 10:
		return "assert " + e + ", " + w.name()
	case 11:
		return "class C(" + w.one("A", "E", "B, A", "A, B", "object", w.name()) + "): y = " + e
	}
	return "print(repr(" + e + "))"
}

// drawnProgram does statements each of which may raise.
func drawnProgram(seed int64) string {
	w := drawer{rand.New(rand.NewSource(seed))}
	var out strings.Builder
	out.WriteString(drawnNames)
	for range 2 + w.r.Intn(12) {
		fmt.Fprintf(&out, "try:\n  %s\nexcept BaseException as h: print(type(h).__name__, h.args, h.__context__)\n", w.stmt())
	}
	if w.r.Intn(3) == 0 {
		out.WriteString(w.stmt() + "\n")
	}
	return out.String()
}

func TestP10Drawn(t *testing.T) {
	t.Parallel()
	codes := map[int64]int{}
	for seed := range int64(1200) {
		src := drawnProgram(seed)
		o := meant(src)
		codes[o.Code]++
		if o.Code == impl.OutFault && o.Fault.Code != impl.FaultScope || o.Code == impl.OutArgs || o.Ticks > impl.MaxTicks || len(o.Text) > impl.MaxOut {
			t.Fatalf("%s\n%s", src, outTold(o))
		}
		if !sameOut(o, impl.Meaning(modsOf(src), impl.MaxTicks)) {
			t.Fatalf("%s\n%s\nand then another", src, outTold(o))
		}
		if seed%40 == 0 {
			wantBudgets(t, src)
			wantShown(t, src)
		}
	}
	if codes[impl.OutEnd] < 600 || codes[impl.OutRaised] < 60 {
		t.Error(codes)
	}
}

// Texts that the grammar allows, ones with tokens changed, and ones full of scopes
// are answered too.
func TestP10AnyText(t *testing.T) {
	t.Parallel()
	list := []string{}
	for seed := range int64(600) {
		w := newRowWriter(seed + 900000)
		toks := w.write("file", 6)
		list = append(list, laid(w.r, toks), laid(w.r, changed(w.r, toks, allWords())))
		list = append(list, newScopeWriter(seed).program(), "a = b = c = d = lambda *a, **k: [a]\n"+newScopeWriter(seed+5000).program())
	}
	for _, src := range list {
		o := meaning([]impl.Mod{{Name: "a", Src: src}, {Name: "b", Src: src}}, 2000)
		if o.Code == impl.OutArgs || o.Ticks > 2000 {
			t.Fatalf("%s\n%s", src, outTold(o))
		}
	}
}
