package tests

import (
	"fmt"
	"math"
	"math/rand"
	"slices"
	"strings"
	"testing"

	"loop.example/g00009/impl"
)

// asked is an expression of the language with the repr of what it has to be, or
// with the exception, behind a !, that it has to raise.
type asked struct {
	expr string
	want string
}

// refusals are the exceptions that stand for the codes.
var refusals = map[int64]string{impl.RArgs: "!ValueError", impl.RZero: "!ZeroDivisionError", impl.RLarge: "!OverflowError", impl.RNeg: "!ValueError"}

// answerOr is the repr of an answer, or what stands for its code.
func answerOr(repr string, code int64) string {
	if code != impl.ROk {
		return refusals[code]
	}
	return repr
}

// wantAsked asks many expressions, as many in a program as there is room for, of
// the machine in every way.
func wantAsked(t *testing.T, list []asked) {
	t.Helper()
	for len(list) > 0 {
		src, text := "", ""
		n := 0
		for _, row := range list {
			more := "try: print(repr(" + row.expr + "))\nexcept Exception as e: print('!' + type(e).__name__)\n"
			if n > 0 && (n == 100 || len(src)+len(more) > 9000 || len(text)+len(row.want) > 12000) {
				break
			}
			src += more
			text += row.want + "\n"
			n++
		}
		for how := int64(0); how <= 2; how++ {
			wantAskedLines(t, list[:n], impl.RunMods([]impl.Mod{{Name: "main", Src: src}}, impl.MaxTicks, how), text)
		}
		list = list[n:]
	}
}

func wantAskedLines(t *testing.T, list []asked, o impl.Out, text string) {
	t.Helper()
	if o.Code == impl.OutEnd && o.Text == text {
		return
	}
	lines := strings.Split(o.Text, "\n")
	for i, row := range list {
		if i >= len(lines) || lines[i] != row.want {
			t.Fatalf("%.300s\n is %s\n not %.300s", row.expr, outTold(impl.Out{Code: o.Code, Exc: o.Exc, Fault: o.Fault, Text: strings.Join(lines[min(i, len(lines)-1):], "\n")}), row.want)
		}
	}
	t.Fatal(outTold(o))
}

// literal is how an integer is written so that an operator can stand beside it.
func literal(a impl.Big) string { return "(" + impl.BigText(a, 10) + ")" }

func TestP16Integers(t *testing.T) {
	t.Parallel()
	r := rand.New(rand.NewSource(1))
	draw := func() impl.Big {
		n := []int{0, 1, 1, 2, 3, 5, 40, 64, 127, 128}[r.Intn(10)]
		a := impl.Big{}
		for i := range n {
			limb := r.Uint32()
			if r.Intn(3) == 0 {
				limb = []uint32{0, 1, math.MaxUint32}[r.Intn(3)]
			}
			if i == n-1 && limb == 0 {
				limb = 1
			}
			a.Mag = append(a.Mag, limb)
		}
		a.Neg = n > 0 && r.Intn(2) == 0
		return a
	}
	list := []asked{}
	text := func(a impl.Big, code int64) string { return answerOr(impl.BigText(a, 10), code) }
	for range 400 {
		a, b := draw(), draw()
		x, y := literal(a), literal(b)
		sum, c1 := impl.BigAdd(a, b)
		diff, c2 := impl.BigSub(a, b)
		prod, c3 := impl.BigMul(a, b)
		floor, rest, c4 := impl.BigDivMod(a, b)
		or, c5 := impl.BigBit(impl.BitOr, a, b)
		and, c6 := impl.BigBit(impl.BitAnd, a, b)
		xor, c7 := impl.BigBit(impl.BitXor, a, b)
		list = append(list, asked{x + " + " + y, text(sum, c1)}, asked{x + " - " + y, text(diff, c2)}, asked{x + " * " + y, text(prod, c3)},
			asked{x + " // " + y, text(floor, c4)}, asked{x + " % " + y, text(rest, c4)}, asked{x + " | " + y, text(or, c5)}, asked{x + " & " + y, text(and, c6)}, asked{x + " ^ " + y, text(xor, c7)})
		cmp := impl.BigCmp(a, b)
		list = append(list, asked{fmt.Sprintf("(%[1]s < %[2]s, %[1]s == %[2]s, %[1]s >= %[2]s)", x, y), strings.NewReplacer("true", "True", "false", "False").Replace(fmt.Sprintf("(%v, %v, %v)", cmp < 0, cmp == 0, cmp >= 0))})
		n := []int64{-1, 0, 1, 2, 7, 31, 32, 33, 100, 4000, 4096, 100000, math.MaxInt64, math.MinInt64}[r.Intn(14)]
		left, c8 := impl.BigShift(a, n)
		right, c9 := impl.BigShift(a, -n)
		power, c10 := impl.BigPow(a, n)
		if n < 0 {
			c8, c9 = impl.RNeg, impl.RNeg
		}
		list = append(list, asked{fmt.Sprintf("%s << (%d)", x, n), text(left, c8)}, asked{fmt.Sprintf("%s >> (%d)", x, n), text(right, c9)}, asked{fmt.Sprintf("%s ** (%d)", x, n), text(power, c10)})
		base := 2 + r.Int63n(35)
		digits := impl.BigText(a, base)
		if r.Intn(4) == 0 {
			digits = strings.ToUpper(digits) + "-"
		}
		read, ok := impl.BigRead(digits, base)
		want := impl.BigText(read, 10)
		if !ok {
			want = "!ValueError"
		}
		if len(digits) < 3000 {
			list = append(list, asked{fmt.Sprintf("int('%s', %d)", digits, base), want})
		}
	}
	// A count that is no int64.
	list = append(list, asked{"1 << 9223372036854775808", "!OverflowError"}, asked{"1 >> 9223372036854775808", "!OverflowError"}, asked{"2 ** 9223372036854775808", "!OverflowError"}, asked{"1 << -9223372036854775809", "!ValueError"}, asked{"0 ** 9223372036854775807", "0"})
	wantAsked(t, list)
}

func drawnText(r *rand.Rand, most int) string {
	out := ""
	for range r.Intn(most + 1) {
		out += []string{"a", "b", "ab", "A", "Z", " ", "\t", "\n", "'", "\"", "\\", "é", "\U0001f600", "\x00", "\x7f", ",", "1"}[r.Intn(17)]
	}
	return out
}

// textList is the repr of a list of texts.
func textList(list []string) string {
	out := []string{}
	for _, s := range list {
		out = append(out, impl.TextRepr(s))
	}
	return "[" + strings.Join(out, ", ") + "]"
}

func TestP16Texts(t *testing.T) {
	t.Parallel()
	r := rand.New(rand.NewSource(3))
	list := []asked{}
	add := func(expr string, want string) { list = append(list, asked{expr, want}) }
	for range 500 {
		s, p, q := drawnText(r, 12), drawnText(r, 2), drawnText(r, 3)
		x, y, z := impl.TextRepr(s), impl.TextRepr(p), impl.TextRepr(q)
		add(x, impl.TextRepr(s))
		add("len("+x+")", fmt.Sprint(impl.TextLen(s)))
		from := r.Int63n(18) - 3
		add(fmt.Sprintf("%s.find(%s, %d)", x, y, from), fmt.Sprint(impl.TextFind(s, p, from)))
		add(fmt.Sprintf("%s.find(%s)", x, y), fmt.Sprint(impl.TextFind(s, p, 0)))
		pieces, code := impl.TextSplit(s, p)
		add(fmt.Sprintf("%s.split(%s)", x, y), answerOr(textList(pieces), code))
		add(x+".split()", textList(impl.TextWords(s)))
		joined, code := impl.TextJoin(p, []string{s, q, s})
		add(fmt.Sprintf("%s.join([%s, %s, %s])", y, x, z, x), answerOr(impl.TextRepr(joined), code))
		put, code := impl.TextReplace(s, p, q)
		add(fmt.Sprintf("%s.replace(%s, %s)", x, y, z), answerOr(impl.TextRepr(put), code))
		n := r.Int63n(8) - 2
		times, code := impl.TextTimes(s, n)
		add(fmt.Sprintf("%s * (%d)", x, n), answerOr(impl.TextRepr(times), code))
		for i, name := range []string{"lstrip", "rstrip", "strip"} {
			add(fmt.Sprintf("%s.%s(%s)", x, name, z), impl.TextRepr(impl.TextStrip(s, q, int64(i+1))))
			add(fmt.Sprintf("%s.%s()", x, name), impl.TextRepr(impl.TextStrip(s, " \t\n\r", int64(i+1))))
		}
		add(x+".upper()", impl.TextRepr(impl.TextCase(s, 1)))
		add(x+".lower()", impl.TextRepr(impl.TextCase(s, 2)))
		whole, _ := impl.TextJoin("", []string{s, p})
		add(x+" + "+y, impl.TextRepr(whole))
	}
	add("'ab' * 8192 == 'a' + 'ba' * 8191 + 'b'", "True")
	add("len('ab' * 8192)", "16384")
	add("'ab' * 8193", "!OverflowError")
	add("'ab' * 99999999999999999999", "!OverflowError")
	add("'a' * 16384 + 'b'", "!OverflowError")
	add("len('b'.join(['a' * 8192, 'a' * 8191]))", "16384")
	add("'b'.join(['a' * 8192, 'a' * 8192])", "!OverflowError")
	add("('a' * 8193).replace('a', 'bb')", "!OverflowError")
	wantAsked(t, list)
}

// boundText is how a bound of a slice is written.
func boundText(b impl.Bound) string {
	if !b.Has {
		return ""
	}
	return fmt.Sprint(b.At)
}

func TestP16Slices(t *testing.T) {
	t.Parallel()
	r := rand.New(rand.NewSource(33))
	bound := func() impl.Bound {
		switch r.Intn(8) {
		case 0, 1:
			return impl.Bound{}
		case 2:
			return impl.Bound{Has: true, At: []int64{math.MinInt64, math.MaxInt64, math.MinInt64 + 1}[r.Intn(3)]}
		}
		return impl.Bound{Has: true, At: r.Int63n(17) - 8}
	}
	list := []asked{}
	for range 900 {
		s := drawnText(r, 7)
		points := []rune(s)
		lo, hi, step := bound(), bound(), bound()
		slice := "[" + boundText(lo) + ":" + boundText(hi) + ":" + boundText(step) + "]"
		cut, code := impl.TextCut(s, lo, hi, step)
		want := answerOr(impl.TextRepr(cut), code)
		places, _ := impl.SliceList(int64(len(points)), lo, hi, step)
		things := []string{}
		numbers := []string{}
		for i := range points {
			numbers = append(numbers, fmt.Sprint(i))
		}
		for _, place := range places {
			things = append(things, fmt.Sprint(place))
		}
		wantList := "[" + strings.Join(things, ", ") + "]"
		if code != impl.ROk {
			// A step of 0 is no division.
			want, wantList = "!ValueError", "!ValueError"
		}
		list = append(list, asked{impl.TextRepr(s) + slice, want}, asked{"[" + strings.Join(numbers, ", ") + "]" + slice, wantList})
	}
	wantAsked(t, list)
}

func TestP16Formats(t *testing.T) {
	t.Parallel()
	r := rand.New(rand.NewSource(333))
	list := []asked{}
	for range 1500 {
		spec := ""
		for _, piece := range [][]string{{"*<", ">", "é^", "=", "0>"}, {"+", "-", " "}, {"0"}, {"5", "12", "99", "1000"}, {","}, {".0", ".2", ".17"}, {"d", "s", "f", "b", "o", "x", "z"}} {
			if r.Intn(3) == 0 {
				spec += piece[r.Intn(len(piece))]
			}
		}
		s := []string{"", "a", "abc", "éé"}[r.Intn(4)]
		a := impl.BigOf([]int64{0, 1, -1, 255, -1234567, math.MaxInt64}[r.Intn(6)])
		f := math.Float64bits([]float64{0, 1.5, -2.25, 1e22, 123456.789, math.Inf(-1)}[r.Intn(6)])
		text, c1 := impl.FormatText(spec, s)
		whole, c2 := impl.FormatBig(spec, a)
		part, c3 := impl.FormatFloat(spec, f)
		field := "(lambda v: f'{v:" + spec + "}')"
		list = append(list, asked{field + "(" + impl.TextRepr(s) + ")", answerOr(impl.TextRepr(text), c1)},
			asked{field + literal(a), answerOr(impl.TextRepr(whole), c2)},
			asked{field + "(float('" + impl.FloatText(f) + "'))", answerOr(impl.TextRepr(part), c3)})
	}
	wantAsked(t, list)
}

// TestP16Dicts does the operations of chapter 7 on a dict of the language: what they
// answer, and at the end the entries in their order.
func TestP16Dicts(t *testing.T) {
	t.Parallel()
	for seed := range int64(60) {
		r := rand.New(rand.NewSource(seed))
		src, want := "d = {}\n", ""
		ops := []impl.DictOp{}
		d := impl.NewDict()
		for range 60 {
			op := impl.DictOp{Kind: 1 + r.Int63n(3), Key: r.Int63n(12), Val: r.Int63n(100)}
			op.Hash = uint64(op.Key) * 0x9e3779b97f4a7c15
			ops = append(ops, op)
			answer := impl.DictRun(ops)[len(ops)-1]
			switch op.Kind {
			case impl.DictOpPut:
				src += fmt.Sprintf("d[%d] = %d\n", op.Key, op.Val)
				d, _ = impl.DictPut(d, op.Hash, op.Key, op.Val)
			case impl.DictOpGet:
				src += fmt.Sprintf("print(d.get(%d, -1))\n", op.Key)
				want += fmt.Sprintln(answer)
			case impl.DictOpCut:
				src += fmt.Sprintf("try:\n  del d[%d]\n  print(1)\nexcept KeyError: print(0)\n", op.Key)
				want += fmt.Sprintln(answer)
				d, _ = impl.DictCut(d, op.Hash, op.Key)
			}
		}
		entries, keys := []string{}, []string{}
		for _, e := range d.Entries {
			if !e.Gone {
				entries = append(entries, fmt.Sprintf("%d: %d", e.Key, e.Val))
				keys = append(keys, fmt.Sprint(e.Key))
			}
		}
		src += "print(d)\nprint(list(d))\nprint(len(d))\n"
		want += "{" + strings.Join(entries, ", ") + "}\n[" + strings.Join(keys, ", ") + "]\n" + fmt.Sprintln(d.Live)
		for how := int64(0); how <= 2; how++ {
			if o := impl.RunMods(modsOf(src), impl.MaxTicks, how); o.Code != impl.OutEnd || o.Text != want {
				t.Fatalf("%s\n tells %s\n not %s", src, outTold(o), want)
			}
		}
	}
}

const sortProgram = `
class T:
  def __init__(self, n, k): self.n, self.k = n, k
  def __lt__(self, o):
    print(self.n, o.n)
    return self.k < o.k
keys = %s
things = [T(i, k) for i, k in enumerate(keys)]
print([x.n for x in %s])
`

// TestP16Sorts has the questions printed that a sort asks.
func TestP16Sorts(t *testing.T) {
	t.Parallel()
	for seed := range int64(60) {
		r := rand.New(rand.NewSource(seed))
		keys := []int64{}
		words := []string{}
		for range r.Intn(40) {
			k := r.Int63n(1 + r.Int63n(30))
			if r.Intn(3) == 0 {
				k = int64(len(keys))
			}
			keys = append(keys, k)
			words = append(words, fmt.Sprint(k))
		}
		answers := []bool{}
		asks, order, done := impl.SortPlan(int64(len(keys)), answers)
		for !done {
			last := asks[len(asks)-1]
			answers = append(answers, keys[last.A] < keys[last.B])
			asks, order, done = impl.SortPlan(int64(len(keys)), answers)
		}
		want := ""
		for _, a := range asks {
			want += fmt.Sprintln(a.A, a.B)
		}
		places := strings.ReplaceAll(fmt.Sprint(order), " ", ", ") + "\n"
		byKeys, _ := impl.SortKeys(keys)
		if !slices.Equal(byKeys, order) {
			t.Fatal("SortKeys has another order")
		}
		list := "[" + strings.Join(words, ", ") + "]"
		for src, text := range map[string]string{
			fmt.Sprintf(sortProgram, list, "sorted(things)"):                                     want + places,
			fmt.Sprintf(sortProgram, list, "things.sort() or things"):                            want + places,
			fmt.Sprintf(sortProgram, list, "sorted(things, key=lambda x: x.k)"):                  places,
			fmt.Sprintf(sortProgram, list, "sorted(things, key=lambda x: (x.k, x.n))"):           places,
			fmt.Sprintf(sortProgram, list, "sorted(sorted(things, key=lambda x: x.k), key=len)"): "",
		} {
			code := int64(impl.OutEnd)
			if text == "" && len(keys) > 0 {
				code = impl.OutRaised
			} else if text == "" {
				text = places
			}
			for how := int64(0); how <= 2; how++ {
				if o := impl.RunMods(modsOf(src), impl.MaxTicks, how); o.Code != code || o.Text != text {
					t.Fatalf("%s\n tells %s\n not %s", src, outTold(o), text)
				}
			}
		}
	}
	for n, want := range map[int]string{impl.MaxSort: "True", impl.MaxSort + 1: "!OverflowError"} {
		wantAsked(t, []asked{{fmt.Sprintf("sorted(range(%d)) == list(range(%d))", n, n), want}})
	}
}

const lineProgram = `
class Top:
  def line(self): print('end')
`

// TestP16ClassLines has classes tell their lines by super, each its place.
func TestP16ClassLines(t *testing.T) {
	t.Parallel()
	with, without := 0, 0
	for seed := range int64(150) {
		r := rand.New(rand.NewSource(seed))
		list := []impl.Class{{}}
		src := lineProgram
		for i := 1; i < 9; i++ {
			bases := []int64{}
			for _, b := range r.Perm(i)[:1+r.Intn(min(i, 3))] {
				bases = append(bases, int64(b))
			}
			list = append(list, impl.Class{Bases: bases})
		}
		fits := impl.MroFits(list)
		want := ""
		known := []impl.Class{}
		for i, c := range list {
			names := []string{}
			for _, b := range c.Bases {
				names = append(names, className(b))
			}
			name := className(int64(i))
			if i > 0 {
				src += fmt.Sprintf("try:\n  class %s(%s):\n    def line(self):\n      print(%d)\n      super(%s, self).line()\n  %s().line()\nexcept (TypeError, NameError) as e: print(type(e).__name__)\n", name, strings.Join(names, ", "), i, name, name)
			}
			known = append(known, c)
			if i == 0 {
				continue
			}
			switch {
			case fits[i]:
				with++
				for _, place := range lineOf(known, fits, int64(i)) {
					if place > 0 {
						want += fmt.Sprintln(place)
					}
				}
				want += "end\n"
			case slices.ContainsFunc(c.Bases, func(b int64) bool { return !fits[b] }):
				want += "NameError\n"
			default:
				without++
				want += "TypeError\n"
			}
		}
		for how := int64(0); how <= 2; how++ {
			if o := impl.RunMods(modsOf(src), impl.MaxTicks, how); o.Code != impl.OutEnd || o.Text != want {
				t.Fatalf("%s\n tells %s\n not %s", src, outTold(o), want)
			}
		}
	}
	if with < 400 || without < 30 {
		t.Error(with, without)
	}
}

func className(place int64) string {
	if place == 0 {
		return "Top"
	}
	return fmt.Sprint("C", place)
}

// lineOf is the line of a class among those that have one: Mro tells no lines when
// one has none, so the others are left out.
func lineOf(list []impl.Class, fits []bool, class int64) []int64 {
	places, back := map[int64]int64{}, []int64{}
	only := []impl.Class{}
	for i, c := range list {
		if !fits[i] {
			continue
		}
		moved := impl.Class{}
		for _, b := range c.Bases {
			moved.Bases = append(moved.Bases, places[b])
		}
		places[int64(i)] = int64(len(only))
		back = append(back, int64(i))
		only = append(only, moved)
	}
	lines, _ := impl.Mro(only)
	out := []int64{}
	for _, place := range lines[places[class]] {
		out = append(out, back[place])
	}
	return out
}

// TestP16Attributes looks for names in instances as AttrGet and AttrSet do.
func TestP16Attributes(t *testing.T) {
	t.Parallel()
	seen := map[int64]int{}
	for seed := range int64(200) {
		r := rand.New(rand.NewSource(seed))
		list := []impl.Class{}
		src := ""
		val := int64(0)
		for i := range 4 {
			c := impl.Class{}
			names := []string{}
			if i > 0 {
				// Each below the one ahead of it, or beside it: there always is a line.
				c.Bases = []int64{int64(r.Intn(i))}
				names = append(names, fmt.Sprint("K", c.Bases[0]))
			}
			src += fmt.Sprintf("class K%d(%s):\n  pass\n", i, strings.Join(names, ", "))
			for _, name := range []string{"x", "y"} {
				if r.Intn(2) == 0 {
					continue
				}
				val++
				kind := r.Int63n(3)
				c.Attrs = append(c.Attrs, impl.Attr{Name: name, Kind: kind, Val: val})
				switch kind {
				case impl.AtPlain:
					src += fmt.Sprintf("  %s = %d\n", name, val)
				case impl.AtData:
					src += fmt.Sprintf("  %s = property(lambda self: ('asked', %d), lambda self, v: print('set'))\n", name, val)
				case impl.AtGet:
					src += fmt.Sprintf("  def %s(self): return ('asked', %d)\n", name, val)
				}
			}
			list = append(list, c)
		}
		class := r.Int63n(4)
		own := []impl.Attr{}
		for _, name := range []string{"x", "y"} {
			if how := impl.AttrSet(list, class, own, name); how == impl.SetOwn && r.Intn(2) == 0 {
				val++
				own = append(own, impl.Attr{Name: name, Val: val})
			}
		}
		src += fmt.Sprintf("o = K%d()\n", class)
		for _, a := range own {
			src += fmt.Sprintf("o.%s = %d\n", a.Name, a.Val)
		}
		want := ""
		for _, name := range []string{"x", "y"} {
			how, got := impl.AttrGet(list, class, own, name)
			seen[how]++
			src += fmt.Sprintf("try:\n  v = o.%[1]s\n  print(v() if type(v) is type(o.__init__) else v)\nexcept AttributeError: print('none')\n", name)
			switch how {
			case impl.GotNone:
				want += "none\n"
			case impl.GotAsked:
				want += fmt.Sprintf("('asked', %d)\n", got)
			default:
				want += fmt.Sprintln(got)
			}
			src += fmt.Sprintf("o.%s = 0\n", name)
			if impl.AttrSet(list, class, own, name) == impl.SetAsked {
				want += "set\n"
			}
		}
		src = "class I:\n  def __init__(self): pass\n" + strings.ReplaceAll(src, "class K0():\n", "class K0(I):\n")
		for how := int64(0); how <= 2; how++ {
			if o := impl.RunMods(modsOf(src), impl.MaxTicks, how); o.Code != impl.OutEnd || o.Text != want {
				t.Fatalf("%s\n tells %s\n not %s", src, outTold(o), want)
			}
		}
	}
	if len(seen) != 4 {
		t.Error(seen)
	}
}
