package tests

import (
	"math"
	"math/big"
	"slices"
	"strconv"
	"testing"

	"loop.example/g00009/impl"
)

// answer is all that one call gives: its numbers and the rest as text.
type answer struct {
	bigs []impl.Big
	rest string
}

func (a answer) equals(b answer) bool {
	return a.rest == b.rest && slices.EqualFunc(a.bigs, b.bigs, same)
}

func (a answer) copied() answer {
	out := answer{rest: a.rest}
	for _, x := range a.bigs {
		out.bigs = append(out.bigs, impl.Big{Neg: x.Neg, Mag: slices.Clone(x.Mag)})
	}
	return out
}

func coded(code int64, bigs ...impl.Big) answer {
	return answer{bigs: bigs, rest: strconv.FormatInt(code, 10)}
}

// call is a function of the layer with all but its numbers filled in.
type call func(a impl.Big, b impl.Big) answer

func ofTwo(f func(a impl.Big, b impl.Big) (impl.Big, int64)) call {
	return func(a impl.Big, b impl.Big) answer {
		c, code := f(a, b)
		return coded(code, c)
	}
}

func ofCount(f func(a impl.Big, n int64) (impl.Big, int64), n int64) call {
	return ofTwo(func(a impl.Big, b impl.Big) (impl.Big, int64) { return f(a, n) })
}

// bigCalls are all functions of the layer that take numbers, with counts,
// bases and ops of many kinds.
func bigCalls() map[string]call {
	calls := map[string]call{
		"BigOk":   func(a impl.Big, b impl.Big) answer { return answer{rest: strconv.FormatBool(impl.BigOk(a))} },
		"BigCmp":  func(a impl.Big, b impl.Big) answer { return coded(impl.BigCmp(a, b)) },
		"BigBits": func(a impl.Big, b impl.Big) answer { return coded(impl.BigBits(a)) },
		"BigInt": func(a impl.Big, b impl.Big) answer {
			x, ok := impl.BigInt(a)
			return answer{rest: strconv.FormatInt(x, 10) + strconv.FormatBool(ok)}
		},
		"BigAdd": ofTwo(impl.BigAdd),
		"BigSub": ofTwo(impl.BigSub),
		"BigMul": ofTwo(impl.BigMul),
		"BigDivMod": func(a impl.Big, b impl.Big) answer {
			q, r, code := impl.BigDivMod(a, b)
			return coded(code, q, r)
		},
	}
	for _, n := range []int64{math.MinInt64, -4096, -33, -32, -1, 0, 1, 2, 31, 32, 33, 4095, 4096, math.MaxInt64} {
		name := strconv.FormatInt(n, 10)
		calls["BigPow "+name] = ofCount(impl.BigPow, n)
		calls["BigShift "+name] = ofCount(impl.BigShift, n)
	}
	for base := int64(1); base <= 37; base++ {
		calls["BigText "+strconv.FormatInt(base, 10)] = func(a impl.Big, b impl.Big) answer {
			return answer{rest: impl.BigText(a, base)}
		}
	}
	for op := int64(0); op <= 4; op++ {
		calls["BigBit "+strconv.FormatInt(op, 10)] = ofTwo(func(a impl.Big, b impl.Big) (impl.Big, int64) {
			return impl.BigBit(op, a, b)
		})
	}
	return calls
}

// keepNumbers are short and long ones, each with spare room, and wrong ones.
func keepNumbers() []impl.Big {
	out := wrongs()
	for _, x := range []string{"0", "1", "-1", "2", "-5", "4294967295", "-4294967296", "18446744073709551616", "-340282366920938463463374607431768211457"} {
		n, _ := new(big.Int).SetString(x, 10)
		out = append(out, fromInt(n))
	}
	most := new(big.Int).Sub(power2(impl.MaxLimbs*32), big.NewInt(1))
	out = append(out, impl.Big{Mag: limbsOf()}, fromInt(most), fromInt(new(big.Int).Neg(most)), fromInt(power2(4064)))
	return out
}

// whole are the limbs with the spare room behind them.
func whole(a impl.Big) []uint32 { return a.Mag[:cap(a.Mag)] }

// scribble overwrites the limbs and the spare room behind them.
func scribble(a impl.Big) {
	list := whole(a)
	for i := range list {
		list[i] = ^list[i] + 77
	}
}

// renewed has the same limbs and spare room in memory of its own.
func renewed(a impl.Big) impl.Big {
	list := make([]uint32, cap(a.Mag))
	copy(list, whole(a))
	return impl.Big{Neg: a.Neg, Mag: list[:len(a.Mag)]}
}

func TestP20SameAnswersAndArgumentsLeftAlone(t *testing.T) {
	for name, call := range bigCalls() {
		for _, x := range keepNumbers() {
			for _, y := range keepNumbers() {
				a, b := renewed(x), renewed(y)
				first := call(a, b).copied()
				if !slices.Equal(whole(a), whole(x)) || !slices.Equal(whole(b), whole(y)) {
					t.Fatal(name, "writes into an argument:", x, y)
				}
				if !first.equals(call(a, b)) {
					t.Fatal(name, "answers otherwise the second time:", x, y)
				}
				// The spare room and nil for an empty list are not part of a number.
				bare := func(z impl.Big) impl.Big { return impl.Big{Neg: z.Neg, Mag: append([]uint32(nil), z.Mag...)} }
				if !first.equals(call(bare(x), bare(y))) {
					t.Fatal(name, "hangs on the spare room:", x, y)
				}
			}
		}
	}
}

func TestP20AnswersAreNewMemory(t *testing.T) {
	for name, call := range bigCalls() {
		for _, x := range keepNumbers() {
			for _, y := range keepNumbers() {
				a, b := renewed(x), renewed(y)
				got := call(a, b)
				first := got.copied()
				scribble(a)
				scribble(b)
				if !first.equals(got) {
					t.Fatal(name, "answers memory of an argument:", x, y)
				}
				a, b = renewed(x), renewed(y)
				got = call(a, b)
				for i := range got.bigs {
					scribble(got.bigs[i])
					for j := i + 1; j < len(got.bigs); j++ {
						if !same(got.bigs[j], first.bigs[j]) {
							t.Fatal(name, "answers two lists that share memory:", x, y)
						}
					}
				}
				if !slices.Equal(whole(a), whole(x)) || !slices.Equal(whole(b), whole(y)) {
					t.Fatal(name, "answers memory of an argument:", x, y)
				}
				if !first.equals(call(a, b)) {
					t.Fatal(name, "keeps what it answered:", x, y)
				}
			}
		}
	}
}

// One number handed in twice is as good as two.
func TestP20OneNumberAsBothArguments(t *testing.T) {
	for name, call := range bigCalls() {
		for _, x := range keepNumbers() {
			a := renewed(x)
			want := call(renewed(x), renewed(x))
			if got := call(a, a); !got.equals(want) {
				t.Fatal(name, "of a number and itself:", x)
			}
			if !slices.Equal(whole(a), whole(x)) {
				t.Fatal(name, "writes into an argument:", x)
			}
		}
	}
}

func TestP20NumbersMadeFromOthers(t *testing.T) {
	for _, x := range []int64{0, 1, -1, 1 << 40, math.MinInt64, math.MaxInt64} {
		text := strconv.FormatInt(x, 10)
		a, b := impl.BigOf(x), impl.BigOf(x)
		c, _ := impl.BigRead(text, 10)
		d, _ := impl.BigRead(text, 10)
		scribble(a)
		scribble(c)
		if e, ok := impl.BigRead(text, 10); !ok || !same(b, d) || !same(b, e) || !same(b, impl.BigOf(x)) {
			t.Error(x, "is made otherwise the second time:", b, d, e)
		}
	}
}
