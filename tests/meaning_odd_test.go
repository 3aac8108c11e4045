package tests

import (
	"fmt"
	"math/rand"
	"strings"
	"testing"

	"loop.example/g00009/impl"
)

// oddNames are those under which classes are given things that are not meant to
// stand there.
const oddNames = "__len__ __bool__ __repr__ __str__ __iter__ __next__ __contains__ __call__ __init__ __eq__ __lt__ __le__ __gt__ __ge__ __add__ __radd__ __mul__ __rmul__ __floordiv__ __mod__ __getattr__ __getitem__ __setitem__ __delitem__ __get__ __set__ __enter__ __exit__ __init_subclass__ __neg__ __match_args__ x y send"

const oddThings = "a|b|A|B|E|e|l|d|s|q|len|repr|str|print|iter|next|list|tuple|set|dict|sum|min|max|sorted|reversed|enumerate|zip|any|all|bool|int|type|abs|f|g|l.append|l.count|l.index|l.remove|l.extend|l.sort|d.get|d.setdefault|d.update|s.add|''.join|'a'.find|q.send|q.throw|q.close|isinstance|getattr|hasattr|setattr|divmod|map|filter|property|staticmethod|classmethod|super|1|''|None|NotImplemented|slice|range|lambda *p: p[-1]|lambda *p: None|lambda *p: True|lambda *p: a|object|StopIteration"

const oddValues = "a|b|e|A|l|d|s|q|1|''|A()|B()|[a]|(a, b)|{1: a}|a.x|b.y|a.z|super(B, b)"

const oddDeeds = "print(%s, %s)|%s == %s|%s < %s|%s + %s|%s in %s|%s[%s]|%s(%s)|list(%s), %s|a.x = %s, %s|l[0] = %s, %s|len(%s), %s|not %s, %s|%s, %s, f'{a}{b!r}{e}{l}'|next(%s), %s|sorted([%s, %s])|max(%s, %s)|divmod(%s, %s)|{%s: %s}|iter(%s), %s|getattr(%s, 'x', %s)|l.append(%s), %s|raise %s from %s|%s // %s|%s %% %s|d.update(%s), %s|q.send(%s), %s|isinstance(%s, %s)|setattr(%s, 'x', %s)"

const oddStart = `l = []
d = {}
s = set()
def g():
  while True: yield a
def f(*p): return p
class A: pass
class B(A): pass
class E(Exception): pass
a = A()
b = B()
e = E(1)
l.append(a)
q = g()
`

// oddProgram gives classes odd methods, and does things by which they are asked.
func oddProgram(seed int64) string {
	w := drawer{rand.New(rand.NewSource(seed))}
	thing := func() string { return w.one(strings.Split(oddThings, "|")...) }
	val := func() string { return w.one(strings.Split(oddValues, "|")...) }
	var out strings.Builder
	out.WriteString(oddStart)
	for range 2 + w.r.Intn(8) {
		what := fmt.Sprintf(w.one("property(%s)", "classmethod(%s)", "staticmethod(%s)", "%s"), thing())
		fmt.Fprintf(&out, "%s.%s = %s\n", w.one("A", "A", "A", "B", "E"), w.one(strings.Fields(oddNames)...), what)
	}
	for range 3 + w.r.Intn(6) {
		deed := fmt.Sprintf(w.one(strings.Split(oddDeeds, "|")...), val(), val())
		switch w.r.Intn(12) {
		case 0:
			deed = fmt.Sprintf("\n  with %s as z: %s", val(), deed)
		case 1:
			deed = fmt.Sprintf("\n  match %s:\n    case A(x, y=z): pass\n    case [1, *z]: pass\n    case {1: z}: pass", val())
		case 2:
			deed = fmt.Sprintf("\n  class C(A, k=%s): x = %s", val(), val())
		case 3:
			deed = fmt.Sprintf("\n  for z in %s: %s", val(), deed)
		}
		fmt.Fprintf(&out, "try: %s\nexcept %s as z: print(z)\n", deed, w.one("Exception", "Exception", "Exception", "BaseException", "TypeError"))
	}
	return out.String()
}

func TestP10OddClasses(t *testing.T) {
	t.Parallel()
	codes := map[int64]int{}
	for seed := range int64(500) {
		src := oddProgram(seed)
		o := meaning(modsOf(src), 2000)
		codes[o.Code]++
		if o.Code == impl.OutFault || o.Code == impl.OutArgs || o.Ticks > 2000 {
			t.Fatalf("%s\n is %s", src, outTold(o))
		}
		for _, budget := range []int64{20, 25, 30, 40, 60, 100, 500, 1999} {
			less := meaning(modsOf(src), budget)
			if budget >= o.Ticks && o.Code != impl.OutTicks && !sameOut(o, less) || !strings.HasPrefix(o.Text, less.Text) || budget < o.Ticks && less.Code != impl.OutTicks {
				t.Fatalf("%s\n is %s\n with %d %s", src, outTold(o), budget, outTold(less))
			}
		}
	}
	if codes[impl.OutEnd] < 60 || codes[impl.OutRaised] < 60 || codes[impl.OutTicks] < 5 {
		t.Error(codes)
	}
}
