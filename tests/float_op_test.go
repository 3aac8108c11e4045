package tests

import (
	"math"
	"math/big"
	"testing"

	"loop.example/g00009/impl"
)

// ieee is what IEEE 754 says of the four operators, in exact numbers; b is no
// zero when op is FDiv.
func ieee(op int64, a uint64, b uint64) uint64 {
	if op == impl.FSub && !isNan(b) {
		op, b = impl.FAdd, b^floatSign
	}
	switch {
	case isNan(a) || isNan(b):
		return impl.FloatNan
	case isInf(a) || isInf(b):
		return ieeeInf(op, a, b)
	}
	sign := (a ^ b) & floatSign
	if op == impl.FAdd {
		sign = a & b & floatSign
	}
	x, y := exact(a), exact(b)
	r := new(big.Rat)
	switch op {
	case impl.FAdd:
		r.Add(x, y)
	case impl.FMul:
		r.Mul(x, y)
	default:
		r.Quo(x, y)
	}
	if r.Sign() == 0 {
		if op == impl.FAdd && (a&^floatSign != 0 || b&^floatSign != 0) {
			return 0
		}
		return sign
	}
	return nearest(r)
}

func ieeeInf(op int64, a uint64, b uint64) uint64 {
	sign := (a ^ b) & floatSign
	zero := a&^floatSign == 0 || b&^floatSign == 0
	both := isInf(a) && isInf(b)
	switch {
	case op == impl.FAdd && both && sign != 0, op == impl.FMul && zero, op == impl.FDiv && both:
		return impl.FloatNan
	case op == impl.FAdd && isInf(a):
		return a
	case op == impl.FAdd:
		return b
	case op == impl.FDiv && isInf(b):
		return sign
	}
	return sign | plusInf
}

// floorOf rounds down what a division gave.
func floorOf(x uint64) uint64 {
	if isNan(x) || isInf(x) {
		return x
	}
	r := exact(x)
	whole := new(big.Int).Div(r.Num(), r.Denom())
	if whole.Sign() == 0 {
		return 0
	}
	return nearest(new(big.Rat).SetInt(whole))
}

func wantedOp(op int64, a uint64, b uint64) (uint64, int64) {
	switch {
	case op < impl.FAdd || op > impl.FMod:
		return 0, impl.RArgs
	case op >= impl.FDiv && b&^floatSign == 0:
		return 0, impl.RZero
	case op <= impl.FDiv:
		return ieee(op, a, b), impl.ROk
	}
	floor := floorOf(ieee(impl.FDiv, a, b))
	if op == impl.FFloor {
		return floor, impl.ROk
	}
	return ieee(impl.FSub, a, ieee(impl.FMul, b, floor)), impl.ROk
}

func checkOp(t *testing.T, op int64, a uint64, b uint64) {
	t.Helper()
	want, wantCode := wantedOp(op, a, b)
	if x, code := impl.FloatOp(op, a, b); x != want || code != wantCode {
		t.Errorf("op %d of %#x (%s) and %#x (%s): %#x, code %d; wanted %#x, code %d", op, a, impl.FloatText(a), b, impl.FloatText(b), x, code, want, wantCode)
	}
}

// floatPairs are pairs of edges, random ones, and random ones that are near to
// each other, so that sums and rests lose their highest digits.
func floatPairs(f func(a uint64, b uint64)) {
	list := floatEdges()
	for _, a := range list {
		for _, b := range list {
			f(a, b)
		}
	}
	first, second := someFloats(41, 4000), someFloats(42, 4000)
	for i, a := range first {
		f(a, second[i])
		f(a, a)
		f(a, a^floatSign)
		near := a ^ second[i]>>(34+i%30)
		if !isNan(near) {
			f(a, near)
			f(near^floatSign, a)
		}
		f(a, second[i]&^(0x7ff<<52)|a&(0x7ff<<52))
	}
}

func TestP2Operators(t *testing.T) {
	floatPairs(func(a uint64, b uint64) {
		for op := int64(impl.FAdd); op <= impl.FMod; op++ {
			checkOp(t, op, a, b)
		}
	})
}

func TestP2OperatorsByHand(t *testing.T) {
	inf, nan, zero := math.Inf(1), math.NaN(), math.Copysign(0, -1)
	for _, c := range []struct {
		op         int64
		a, b, want float64
	}{
		{impl.FAdd, 0.1, 0.2, 0.30000000000000004}, {impl.FAdd, 1 << 53, 1, 1 << 53}, {impl.FAdd, 1<<53 + 2, 1, 1<<53 + 4}, {impl.FAdd, zero, zero, zero}, {impl.FAdd, zero, 0, 0}, {impl.FAdd, 1, -1, 0}, {impl.FAdd, inf, -inf, nan}, {impl.FAdd, math.MaxFloat64, math.MaxFloat64, inf}, {impl.FAdd, math.MaxFloat64, 0x1p969, math.MaxFloat64}, {impl.FAdd, math.MaxFloat64, 0x1p970, inf},
		{impl.FSub, 0, 0, 0}, {impl.FSub, zero, 0, zero}, {impl.FSub, 0, zero, 0}, {impl.FSub, zero, zero, 0}, {impl.FSub, inf, inf, nan}, {impl.FSub, 1, 3, -2},
		{impl.FMul, 0, -1, zero}, {impl.FMul, zero, -1, 0}, {impl.FMul, inf, 0, nan}, {impl.FMul, inf, -2, -inf}, {impl.FMul, 5e-324, 0.5, 0}, {impl.FMul, 5e-324, 0.75, 5e-324}, {impl.FMul, -5e-324, 0.5, zero}, {impl.FMul, 15e-324, 0.5, 10e-324}, {impl.FMul, 1e200, 1e200, inf},
		{impl.FDiv, 1, 3, 1.0 / 3}, {impl.FDiv, -1, inf, zero}, {impl.FDiv, inf, -3, -inf}, {impl.FDiv, inf, inf, nan}, {impl.FDiv, zero, 5, zero}, {impl.FDiv, 0, -5, zero}, {impl.FDiv, 1, 5e-324, inf}, {impl.FDiv, 5e-324, 2, 0},
		{impl.FFloor, 7, 2, 3}, {impl.FFloor, -7, 2, -4}, {impl.FFloor, 7, -2, -4}, {impl.FFloor, -7, -2, 3}, {impl.FFloor, 6, -2, -3}, {impl.FFloor, zero, 5, 0}, {impl.FFloor, 0, -5, 0}, {impl.FFloor, 1, 2, 0}, {impl.FFloor, -1, 2, -1}, {impl.FFloor, -1, inf, 0}, {impl.FFloor, 1, -inf, 0}, {impl.FFloor, inf, 2, inf}, {impl.FFloor, inf, -2, -inf}, {impl.FFloor, inf, inf, nan}, {impl.FFloor, nan, 1, nan}, {impl.FFloor, -5e-324, 1, -1}, {impl.FFloor, -5e-324, 2, 0}, {impl.FFloor, 1, 0.1, 10}, {impl.FFloor, 1e300, 1e-300, inf},
		{impl.FMod, 7, 2, 1}, {impl.FMod, -7, 2, 1}, {impl.FMod, 7, -2, -1}, {impl.FMod, -7, -2, -1}, {impl.FMod, 6, 2, 0}, {impl.FMod, -6, 2, 0}, {impl.FMod, -6, -2, 0}, {impl.FMod, zero, 5, zero}, {impl.FMod, zero, -5, 0}, {impl.FMod, 0, 5, 0}, {impl.FMod, 5, inf, nan}, {impl.FMod, -5, inf, nan}, {impl.FMod, inf, 5, nan}, {impl.FMod, 1, nan, nan}, {impl.FMod, 1, 0.1, 0}, {impl.FMod, 1e300, 1e-300, -inf}, {impl.FMod, 5.5, 2, 1.5}, {impl.FMod, -5.5, 2, 0.5},
	} {
		want := bitsOf(c.want)
		if isNan(want) {
			want = impl.FloatNan
		}
		if x, code := impl.FloatOp(c.op, bitsOf(c.a), bitsOf(c.b)); x != want || code != impl.ROk {
			t.Errorf("op %d of %v and %v: %v (%#x), code %d; wanted %v", c.op, c.a, c.b, math.Float64frombits(x), x, code, c.want)
		}
	}
}

// A machine that rounds the product and the difference as one gives another rest.
func TestP2RestsAreRoundedTwice(t *testing.T) {
	told := 0
	first, second := someFloats(43, 3000), someFloats(44, 3000)
	for i, a := range first {
		b := second[i]&^(0x7ff<<52) | a&(0x7ff<<52) - min(a&(0x7ff<<52), uint64(i%50)<<52)
		want, wantCode := wantedOp(impl.FMod, a, b)
		x, code := impl.FloatOp(impl.FMod, a, b)
		if x != want || code != wantCode {
			t.Errorf("%#x by %#x has the rest %#x, code %d; wanted %#x", a, b, x, code, want)
		}
		floor, _ := wantedOp(impl.FFloor, a, b)
		if fused := math.FMA(-math.Float64frombits(b), math.Float64frombits(floor), math.Float64frombits(a)); bitsOf(fused) != want {
			told++
		}
	}
	if told < 100 {
		t.Error("too few rests that tell one rounding from two:", told)
	}
}

func TestP2NoOrderInSumsAndProducts(t *testing.T) {
	floatPairs(func(a uint64, b uint64) {
		for _, op := range []int64{impl.FAdd, impl.FMul} {
			x, code := impl.FloatOp(op, a, b)
			y, other := impl.FloatOp(op, b, a)
			if x != y || code != impl.ROk || other != impl.ROk {
				t.Errorf("op %d of %#x and %#x hangs on the order: %#x, %#x", op, a, b, x, y)
			}
		}
	})
}

// A NaN that comes in, whatever its bits, goes out as FloatNan.
func TestP2OperatorsOfNans(t *testing.T) {
	for _, nan := range nans() {
		for _, x := range append(floatEdges(), 0) {
			for op := int64(impl.FAdd); op <= impl.FMod; op++ {
				if y, code := impl.FloatOp(op, x, nan); y != impl.FloatNan || code != impl.ROk {
					t.Errorf("op %d of %#x and %#x is %#x, code %d", op, x, nan, y, code)
				}
				if y, code := impl.FloatOp(op, nan, x); x&^floatSign != 0 && (y != impl.FloatNan || code != impl.ROk) {
					t.Errorf("op %d of %#x and %#x is %#x, code %d", op, nan, x, y, code)
				}
			}
		}
	}
}

func TestP2OperatorsRefused(t *testing.T) {
	for _, a := range floatEdges() {
		for _, b := range []uint64{0, minusZero} {
			for _, op := range []int64{impl.FDiv, impl.FFloor, impl.FMod} {
				if x, code := impl.FloatOp(op, a, b); x != 0 || code != impl.RZero {
					t.Errorf("op %d of %#x and a zero: %#x, code %d", op, a, x, code)
				}
			}
		}
		for _, b := range []uint64{0, minusZero, bitsOf(1), plusInf, impl.FloatNan} {
			for _, op := range []int64{math.MinInt64, -1, 0, 7, 8, 1<<32 + 1, 1<<32 + 4, math.MaxInt64} {
				if x, code := impl.FloatOp(op, a, b); x != 0 || code != impl.RArgs {
					t.Errorf("op %d of %#x and %#x: %#x, code %d", op, a, b, x, code)
				}
			}
		}
	}
}

func TestP2Compare(t *testing.T) {
	if c := impl.FloatCmp(0, minusZero); c != 0 {
		t.Error("both zeros are the same:", c)
	}
	floatPairs(func(a uint64, b uint64) {
		want := int64(2)
		switch {
		case isNan(a) || isNan(b):
		case isInf(a) || isInf(b):
			want = int64(infRank(a) - infRank(b))
			want = max(-1, min(1, want))
		default:
			want = int64(exact(a).Cmp(exact(b)))
		}
		if c := impl.FloatCmp(a, b); c != want {
			t.Errorf("%#x against %#x: %d; wanted %d", a, b, c, want)
		}
	})
}

func infRank(x uint64) int {
	switch x {
	case plusInf:
		return 1
	case minusInf:
		return -1
	}
	return 0
}
