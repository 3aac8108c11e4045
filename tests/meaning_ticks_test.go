package tests

import (
	"strings"
	"testing"

	"loop.example/g00009/impl"
)

func TestP10Examples(t *testing.T) {
	for _, c := range []struct {
		src, text string
		ticks     int64
	}{
		{"print(1 < 2 < 2, 0 or 'a', 7 // -2)\n", "False a -4\n", 1},
		{"a, *b = range(4)\nprint(b)\n", "[1, 2, 3]\n", 10},
		{"for i in range(2): print(i)\n", "0\n1\n", 6},
		{"def f(): return 5\nprint(f())\n", "5\n", 4},
		{"x = [i * i for i in (1, 2)]\nprint(x)\n", "[1, 4]\n", 9},
	} {
		wantProg(t, prog{c.src, c.text, ""})
		wantTicks(t, c.src, c.ticks)
		wantBudgets(t, c.src)
	}
}

// tickRow is a program with what it costs; its sum says what costs how many.
type tickRow struct {
	src string
	sum []int64
}

func sumOf(list []int64) int64 {
	sum := int64(0)
	for _, n := range list {
		sum += n
	}
	return sum
}

func wantTickRows(t *testing.T, before string, rows []tickRow) {
	t.Helper()
	base := meant(before).Ticks
	for _, row := range rows {
		wantTicks(t, before+row.src, base+sumOf(row.sum))
		wantBudgets(t, before+row.src)
	}
}

func one(n ...int64) []int64 { return append([]int64{1}, n...) }

func TestP10TicksOfStatements(t *testing.T) {
	wantTickRows(t, "", []tickRow{
		{"", nil},
		{"pass", one()},
		{"pass; pass", one(1)},
		{"x = y = 1", one()},
		{"global x", one()},
		{"x = 1; del x", one(1)},
		{"assert 1", one()},
		{"lambda: 1", one()},
		{"if 1: pass", one(1)},
		{"if 0: pass", one()},
		{"if 0: pass\nelse: pass", one(1)},
		{"if 0: pass\nelif 1: pass", one(1, 1)},
		{"if 0: pass\nelif 0: pass\nelse: pass", one(1, 1)},
		{"while 0: pass", one(1)},
		{"while 0: pass\nelse: pass", one(1, 1)},
		{"while 1: break", one(1, 1)},
		{"i = 2\nwhile i: i -= 1", one(1, 3, 2)},
		{"for i in (): pass", one(0, 1)},
		{"for i in (1,): pass", one(1, 2, 1)},
		{"for i in (1, 2): break", one(2, 1, 1)},
		{"for i in (1,): pass\nelse: pass", one(1, 2, 1, 1)},
		{"for a, b in ((1, 2),): pass", one(2, 1, 2, 3, 1)},
		{"try: pass\nfinally: pass", one(1, 1)},
		{"try: pass\nexcept: pass\nelse: pass\nfinally: pass", one(1, 1, 1)},
		{"try: 1 / 0\nexcept: pass", one(1, 1)},
		{"try: 1 / 0\nexcept (KeyError, ZeroDivisionError): pass", one(1, 2, 1)},
		{"match 1:\n  case 2: pass\n  case 1: pass", one(1)},
		{"match (1, 2):\n  case [a, *b]: pass", one(2, 1, 1)},
		{"match (1, 2):\n  case [a, *_]: pass", one(2, 1)},
		{"match (1, 2):\n  case [a, b]: pass", one(2, 1)},
		{"match {1: 2, 3: 4}:\n  case {1: a, **b}: pass", one(2, 1, 1)},
		{"import m\n# module m\npass", one(1)},
		{"import m\nfrom m import x\n# module m\nx = 1", one(1, 1)},
		{"class A: pass", one(1, 1)},
		{"class A: pass\nA()", one(1, 1, 1)},
		{"class A:\n  def __init__(s): pass\nA()", one(1, 1, 1, 1, 1)},
		{"def f(): pass", one()},
		{"def f(): pass\nf()", one(1, 1, 1)},
		{"def f(): return 1\nf()", one(1, 1, 1)},
		{"(lambda: 5)()", one(1)},
		{"@(lambda f: f)\ndef f(): pass", one(1)},
		{"def f(*a): pass\nf()", one(1, 0, 1, 1)},
		{"def f(*a): pass\nf(1, 2)", one(1, 2, 1, 1)},
		{"def f(**k): pass\nf(a=1)", one(1, 1, 1, 1)},
		{"def f(*a): pass\nf(*(1, 2))", one(1, 2, 3, 2, 1, 1)},
		{"def f(**k): pass\nf(**{'a': 1})", one(1, 1, 1, 1, 1, 1)},
		{"def f(a): pass\nf(**{'a': 1})", one(1, 1, 1, 1, 1)},
		{"def f(a=1, b=2): pass\nf()", one(1, 1, 1)},
		{"def f(*a, b): pass\ntry: f(1, 2)\nexcept TypeError: pass", one(1, 1, 2, 1)},
		{"def f(): pass\ntry: f(1)\nexcept TypeError: pass", one(1, 1, 1)},
		{"def f(**k): pass\ntry: f(**{1: 2})\nexcept TypeError: pass", one(1, 1, 1, 0, 1)},
		{"def f(**k): pass\ntry: f(**{'a': 1, 2: 3})\nexcept TypeError: pass", one(1, 1, 2, 1, 1)},
		{"def f(a, **k): pass\ntry: f(b=1, c=2)\nexcept TypeError: pass", one(1, 1, 0, 1)},
		{"def f(): f()\ntry: f()\nexcept RecursionError: pass", one(1, 1, 49, 49, 1)},
		{"class M:\n  def __enter__(s): pass\n  def __exit__(s, *a): pass\nwith M(): pass", one(1, 2, 1, 1, 1, 1, 3, 1, 1)},
		{"a = b = 1\na, b = b, a", one(1, 2, 3)},
		{"a, *b = range(4)", one(5, 3)},
		{"a = [1]\na[0:1] = (2, 3)", one(1, 1, 2, 3)},
		{"a = []\na += (1, 2)", one(1, 2, 3)},
	})
}

func TestP10TicksOfThings(t *testing.T) {
	wantTickRows(t, "", []tickRow{
		{"[]", one()},
		{"[1, 2]", one(2)},
		{"(1, 2)", one(2)},
		{"1, 2", one(2)},
		{"{1, 1}", one(1)},
		{"{1: 2, 1: 3, 4: 5}", one(2)},
		{"[[1], (2, 3)]", one(1, 2, 2)},
		{"[*(1, 2)]", one(2, 3, 2)},
		{"{**{1: 2}}", one(1, 1, 1)},
		{"{**{1: 2}, 1: 3}", one(1, 1, 1)},
		{"try: {[], 1}\nexcept TypeError: pass", one(1, 1)},
		{"[i for i in (1, 2)]", one(2, 3, 2)},
		{"[i for i in (1, 2) if 0]", one(2, 3)},
		{"{1 for i in (1, 2)}", one(2, 3, 2)},
		{"{1: i for i in (1, 2)}", one(2, 3, 2)},
		{"[j for i in (1, 2) for j in (3,)]", one(2, 3, 1, 2, 1, 1, 2, 1)},
		{"(i for i in (1, 2))", one(2)},
		{"list(i for i in (1, 2))", one(2, 3, 3, 2)},
		{"try: {[] for i in (1,)}\nexcept TypeError: pass", one(1, 1, 1, 1, 1)},
		{"[1, 2, 3][1:]", one(3, 2)},
		{"(1, 2)[::-1]", one(2, 2)},
		{"[1, 2][0]", one(2)},
		{"'a' * 31", one()},
		{"'a' * 32", one(1)},
		{"('a' * 64)[:32]", one(2, 1)},
		{"('a' * 64)[0]", one(2)},
		{"'a' * 32 + 'b' * 32", one(1, 1, 2)},
		{"try: 'a' * 16385\nexcept OverflowError: pass", one(1, 1)},
		{"[1] + [2]", one(1, 1, 2)},
		{"(1,) + ()", one(1, 0, 1)},
		{"[1] * 3", one(1, 3)},
		{"[1] * -3", one(1)},
		{"() * 3", one()},
		{"{1, 2} | {2, 3}", one(2, 2, 4, 3)},
		{"{1} & {2}", one(1, 1, 2)},
		{"{1, 2} - {1}", one(2, 1, 3, 1)},
		{"{1, 2} ^ {1}", one(2, 1, 3, 1)},
		{"{1} < {2, 3}", one(1, 2, 3)},
		{"{1, 2} == {1, 2}", one(2, 2, 2)},
		{"{1, 2} == {3, 2}", one(2, 2, 1)},
		{"{1} == {1, 2}", one(1, 2)},
		{"[1, 2] == [1, 2]", one(2, 2, 2)},
		{"[1, 2] == [3, 2]", one(2, 2, 1)},
		{"[1, 2] != [1, 3]", one(2, 2, 2)},
		{"[1] == [1, 2]", one(1, 2)},
		{"[] == ()", one()},
		{"a = [1]\na == a", one(1, 1)},
		{"a = [1]\n(a,) == (a,)", one(1, 1, 1, 1, 1)},
		{"[[1]] == [[1]]", one(1, 1, 1, 1, 1, 1)},
		{"[1, 2] < [1, 3]", one(2, 2, 2)},
		{"[1] < [1, 2]", one(1, 2, 1)},
		{"() < (1,)", one(1)},
		{"{1: 2, 3: 4} == {1: 2, 3: 5}", one(2, 2, 2)},
		{"{1: 2} == {2: 2}", one(1, 1, 1)},
		{"{1: [2]} == {1: [2]}", one(1, 1, 1, 1, 1, 1)},
		{"2 in [1, 2, 3]", one(3, 2)},
		{"5 in [1]", one(1, 2)},
		{"1 in {1}", one(1)},
		{"1 in {1: 2}", one(1)},
		{"'a' in 'abc'", one()},
		{"2 in range(5)", one(3)},
		{"(1,) in [(2,), (1,)]", one(1, 1, 1, 2, 2, 1, 1)},
		{"{(1, 2): 3}[(1, 2)]", one(2, 1, 2)},
		{"ValueError(1, 2).args", one()},
	})
}

func TestP10TicksOfBuiltins(t *testing.T) {
	wantTickRows(t, "", []tickRow{
		{"[1, 2].index(2)", one(2, 2)},
		{"[1, 2].count(5)", one(2, 2)},
		{"[1, 2].remove(1)", one(2, 1)},
		{"(1, 2).index(1)", one(2, 1)},
		{"[[1]].index([1])", one(1, 1, 1, 1, 1)},
		{"list((1, 2))", one(2, 3, 2)},
		{"tuple((1, 2))", one(2, 3, 2)},
		{"set((1, 1))", one(2, 3, 1)},
		{"list()", one()},
		{"try: set(([], 1))\nexcept TypeError: pass", one(1, 0, 2, 3, 1)},
		{"dict({1: 2})", one(1, 1, 1)},
		{"dict([(1, 2)])", one(2, 1, 2, 3, 1)},
		{"dict(a=1)", one(1)},
		{"dict({1: 2}, a=1)", one(1, 1, 2)},
		{"{}.update({1: 2})", one(1, 1)},
		{"{}.update([(1, 2)], a=1)", one(2, 1, 2, 3)},
		{"sorted((2, 1))", one(2, 3, 2)},
		{"sorted((2, 1), key=lambda x: x)", one(2, 3, 2, 2)},
		{"sorted([(2, 1), (1, 2)])", one(4, 2, 3, 1, 2)},
		{"[2, 1].sort()", one(2)},
		{"min(1, 2)", one()},
		{"min((1, 2))", one(2, 3)},
		{"sum((1, 2))", one(2, 3)},
		{"sum(([1], [2]), [])", one(1, 1, 2, 3, 1, 2)},
		{"reversed((1, 2))", one(2, 3, 2)},
		{"enumerate((1, 2))", one(2, 3, 4, 2)},
		{"zip((1, 2), (3,))", one(2, 1, 4, 2, 1)},
		{"map(abs, (1, 2))", one(2, 3, 2)},
		{"filter(None, (0, 1))", one(2, 3, 1)},
		{"any((0, 1, 2))", one(3, 2)},
		{"all((0, 1))", one(2, 1)},
		{"divmod(7, 2)", one(2)},
		{"iter((1,))", one(1)},
		{"next(iter((1,)))", one(1, 1)},
		{"next(iter(()), 5)", one(0, 1)},
		{"try: next(5)\nexcept TypeError: pass", one(1, 1)},
		{"try: list(5)\nexcept TypeError: pass", one(1, 1)},
		{"range(1000)", one()},
		{"len([1])", one(1)},
		{"isinstance(1, (int, str))", one(2)},
		{"'a,b'.split(',')", one(2)},
		{"('a' * 32 + ',' + 'b' * 64).split(',')", one(1, 1, 2, 3, 1, 2, 2)},
		{"','.join(('a', 'b'))", one(2, 3)},
		{"('a' * 32).join(('b', 'b'))", one(1, 2, 3, 1)},
		{"try: ''.join((1, 2))\nexcept TypeError: pass", one(1, 2, 3, 1)},
		{"('a' * 64).upper()", one(2, 2)},
		{"('a' * 64).strip()", one(2, 2)},
		{"('a' * 64).strip('a')", one(2)},
		{"('a' * 32).replace('a', 'bb')", one(1, 2)},
		{"('a' * 64).find('b')", one(2)},
		{"('a' * 64).startswith('b')", one(2)},
		{"{1: 2, 3: 4}.items()", one(2, 4, 2)},
		{"{1: 2}.keys()", one(1, 1)},
		{"{1: 2}.values()", one(1, 1)},
		{"{1: 2}.copy()", one(1, 1)},
		{"{1: 2}.get(1)", one(1)},
		{"[1].copy()", one(1, 1)},
		{"{1}.copy()", one(1, 1)},
		{"[1].append(2)", one(1)},
		{"[].extend((1, 2))", one(2, 3)},
	})
}

func TestP10TicksOfTexts(t *testing.T) {
	wantTickRows(t, "", []tickRow{
		{"repr('a' * 29)", one()},
		{"repr('a' * 30)", one(1)},
		{"repr(['a' * 30])", one(1, 1, 1)},
		{"str('a' * 64)", one(2)},
		{"str(['a' * 30])", one(1, 1, 1)},
		{"str(ValueError())", one()},
		{"str(ValueError('a' * 64))", one(2)},
		{"str(ValueError(['a' * 30]))", one(1, 1, 1)},
		{"str(ValueError('a' * 30, 1))", one(1, 1)},
		{"repr(ValueError('a' * 30))", one(1, 1)},
		{"print('a' * 31)", one(1)},
		{"print('a' * 63)", one(1, 2)},
		{"print('a' * 16, 'b' * 14)", one(1)},
		{"print(['a' * 30])", one(1, 1, 1, 1)},
		{"print(2 ** 200)", one(1, 1)},
		{"class A:\n  def __str__(s): return t\n  def __repr__(s): return t\nt = 'a' * 64\nstr(A())", one(1, 2, 1, 2, 1, 1, 1)},
		{"class A:\n  def __repr__(s): return t\nt = 'a' * 64\nstr(A())", one(1, 1, 1, 2, 1, 1, 1, 2)},
		{"class A:\n  def __repr__(s): return t\nt = 'a' * 64\nrepr(A())", one(1, 1, 1, 2, 1, 1, 1, 2)},
		{"f'{5}'", one()},
		{"f'aaaaaaaaaaaaaaaabbbbbbbbbbbbbbbb'", one(1)},
		{"x = 'a' * 64\nf'{x}'", one(2, 1, 2, 2)},
		{"x = 'a' * 64\nf'{x!r}'", one(2, 1, 2, 2, 2)},
		{"x = 'a' * 64\nf'{x!s}'", one(2, 1, 2, 2)},
		{"x = 'a' * 64\nf'{x}{x}'", one(2, 1, 2, 2, 4)},
		{"x = 'a' * 64\nf'{[x]}'", one(2, 1, 1, 2, 2, 2, 2)},
		{"f'{5:40}'", one(1, 1)},
	})
}

func TestP10TicksOfGenerators(t *testing.T) {
	wantTickRows(t, "def g():\n  yield 1\ni = g()\n", []tickRow{
		{"next(i)", one(1, 1)},
		{"i.send(None)", one(1, 1)},
		{"next(i)\nnext(i, 0)", one(1, 1, 1, 1)},
		{"list(i)", one(1, 1, 1, 1)},
		{"for x in i: pass", one(1, 1, 1, 1)},
		{"i.close()", one()},
		{"next(i)\ni.close()", one(1, 1, 1, 1)},
		{"list(i)\ni.close()", one(4, 1)},
		{"list(i)\nnext(i, 0)", one(4, 1, 1)},
		{"try: i.throw(KeyError)\nexcept KeyError: pass", one(1, 1, 1)},
		{"try: i.throw(5)\nexcept TypeError: pass", one(1, 1)},
		{"next(i)\ntry: i.throw(KeyError)\nexcept KeyError: pass", one(2, 1, 1, 1, 1)},
		{"try: i.send(1)\nexcept TypeError: pass", one(1, 1)},
		{"def h(): yield from i\nlist(h())", one(1, 1, 1, 1, 1, 1, 1, 1, 1)},
		{"def h(): yield from i\nj = h()\nnext(j)\nj.close()", one(1, 1, 1, 1, 1, 1, 1, 1, 1, 1)},
		{"def h(): yield from (1,)\nlist(h())", one(1, 1, 1, 1, 1, 1, 1, 1, 1)},
		{"def h(): next(j); yield\nj = h()\ntry: next(j)\nexcept ValueError: pass", one(1, 1, 1, 1, 1, 1, 1, 1)},
		{"class N:\n  def __iter__(s): return s\n  def __next__(s): raise StopIteration\nlist(N())", one(1, 2, 1, 1, 1, 1, 1, 1)},
		{"class S:\n  def __iter__(s): return s\n  def __next__(s): return 1\n  def send(s, v): return v\ndef h(): yield from S()\nj = h()\nnext(j)\nj.send(5)", one(1, 3, 1, 1, 1, 1, 1, 1, 1, 1, 1, 1, 1, 1, 1, 1, 1)},
	})
}

// A loop that prints goes on up to the tick at which one more was wanted.
func TestP10Beginning(t *testing.T) {
	src := "n = 0\nwhile True:\n  n += 1\n  print(n % 10, end='')\n"
	whole := meant(src)
	for _, budget := range []int64{0, 1, 2, 3, 4, 5, 6, 100, 4999, 19999, 20000} {
		o := meaning(modsOf(src), budget)
		if o.Code != impl.OutTicks || o.Ticks != budget || !strings.HasPrefix(whole.Text, o.Text) {
			t.Errorf("%d: %s", budget, outTold(o))
		}
		if int64(len(o.Text)) != max(budget-2, 0)/3 {
			t.Errorf("%d: %s", budget, outTold(o))
		}
	}
}
