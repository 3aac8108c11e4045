package tests

import (
	"slices"
	"strconv"
	"testing"

	"loop.example/g00009/impl"
)

// bigFloatCalls are the functions that take an integer, with floats of all kinds.
func bigFloatCalls() map[string]func(a impl.Big) string {
	calls := map[string]func(a impl.Big) string{
		"FloatOfBig": func(a impl.Big) string {
			x, code := impl.FloatOfBig(a)
			return strconv.FormatUint(x, 16) + " " + strconv.FormatInt(code, 10)
		},
	}
	for _, x := range floatEdges() {
		calls["BigFloatCmp "+strconv.FormatUint(x, 16)] = func(a impl.Big) string {
			return strconv.FormatInt(impl.BigFloatCmp(a, x), 10)
		}
	}
	return calls
}

func TestP20FloatsOfIntegersLeaveThemAlone(t *testing.T) {
	for name, call := range bigFloatCalls() {
		for _, n := range keepNumbers() {
			a := renewed(n)
			first := call(a)
			if !slices.Equal(whole(a), whole(n)) {
				t.Fatal(name, "writes into an argument:", n)
			}
			if second := call(a); second != first {
				t.Fatal(name, "answers otherwise the second time:", n, first, second)
			}
			bare := impl.Big{Neg: n.Neg, Mag: append([]uint32(nil), n.Mag...)}
			if other := call(bare); other != first {
				t.Fatal(name, "hangs on the spare room:", n, first, other)
			}
		}
	}
}

func TestP20WholePartsAreNewMemory(t *testing.T) {
	for _, x := range append(floatEdges(), someFloats(61, 500)...) {
		a, code := impl.FloatBig(x)
		b, other := impl.FloatBig(x)
		if code != other || !same(a, b) {
			t.Fatalf("the whole part of %#x is otherwise the second time: %v, %v", x, a, b)
		}
		kept := renewed(b)
		scribble(a)
		c, _ := impl.FloatBig(x)
		if !same(b, kept) || !same(c, kept) {
			t.Fatalf("the whole part of %#x is kept: %v, %v; wanted %v", x, b, c, kept)
		}
	}
}

func TestP20FloatsTheSameTwice(t *testing.T) {
	list := floatEdges()
	for i, a := range list {
		s := impl.FloatText(a)
		if again := impl.FloatText(a); again != s {
			t.Errorf("%#x is %s and then %s", a, s, again)
		}
		for _, text := range []string{s, s + "0", "+" + s, s[:len(s)-1]} {
			x, ok := impl.FloatRead(text)
			if y, again := impl.FloatRead(text); x != y || ok != again {
				t.Errorf("%s is read as %#x and then as %#x", text, x, y)
			}
		}
		b := list[len(list)-1-i]
		for op := int64(0); op <= 7; op++ {
			x, code := impl.FloatOp(op, a, b)
			if y, again := impl.FloatOp(op, a, b); x != y || code != again {
				t.Errorf("op %d of %#x and %#x is %#x and then %#x", op, a, b, x, y)
			}
		}
		if c := impl.FloatCmp(a, b); c != impl.FloatCmp(a, b) {
			t.Errorf("%#x against %#x is %d and then another", a, b, c)
		}
	}
}
