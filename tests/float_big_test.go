package tests

import (
	"math"
	"math/big"
	"math/rand"
	"testing"

	"loop.example/g00009/impl"
)

// wantedFloat is the nearest float of an integer.
func wantedFloat(x *big.Int) (uint64, int64) {
	if x.Sign() == 0 {
		return 0, impl.ROk
	}
	f := nearest(new(big.Rat).SetInt(x))
	if isInf(f) {
		return 0, impl.RLarge
	}
	return f, impl.ROk
}

func checkFloatOf(t *testing.T, x *big.Int) {
	t.Helper()
	want, wantCode := wantedFloat(x)
	if f, code := impl.FloatOfBig(fromInt(x)); f != want || code != wantCode {
		t.Errorf("the float of %v: %#x, code %d; wanted %#x, code %d", x, f, code, want, wantCode)
	}
}

func bothSigns(x *big.Int, f func(x *big.Int)) {
	f(x)
	f(new(big.Int).Neg(x))
}

func TestP2FloatOfBig(t *testing.T) {
	for _, x := range append(edges(), someInts(51, 3000, 33)...) {
		checkFloatOf(t, x)
	}
	for _, x := range someInts(52, 200, impl.MaxLimbs) {
		checkFloatOf(t, x)
	}
	// With each count of bits: powers of 2, and what is next to them.
	for n := range uint(1100) {
		for d := int64(-2); d <= 2; d++ {
			checkFloatOf(t, new(big.Int).Add(power2(n), big.NewInt(d)))
		}
	}
	for _, a := range wrongs() {
		if f, code := impl.FloatOfBig(a); f != 0 || code != impl.RArgs {
			t.Error("the float of no number", a, "is", f, code)
		}
	}
}

// Ties at each length: the bit behind the last one, with nothing behind it or
// with one bit, the farthest or the nearest.
func TestP2FloatOfBigTies(t *testing.T) {
	r := rand.New(rand.NewSource(53))
	for n := uint(0); n <= 971; n++ {
		for _, last := range []uint64{0, 1, 2, 3} {
			head := new(big.Int).SetUint64(1<<52 | r.Uint64()>>12&^3 | last)
			tie := head.Lsh(head, 1).SetBit(head, 0, 1)
			tie.Lsh(tie, n)
			for _, d := range []*big.Int{big.NewInt(0), big.NewInt(1), big.NewInt(-1), power2(n / 2), power2(n)} {
				bothSigns(new(big.Int).Add(tie, d), func(x *big.Int) { checkFloatOf(t, x) })
			}
		}
	}
}

// From half a step beyond the greatest float on there is none; below it is the greatest.
func TestP2FloatOfBigLimits(t *testing.T) {
	middle := half(mostFloat).Num()
	less := new(big.Int).Sub(middle, big.NewInt(1))
	if f, code := impl.FloatOfBig(fromInt(less)); f != mostFloat || code != impl.ROk {
		t.Errorf("just below the limit: %#x, code %d", f, code)
	}
	if f, code := impl.FloatOfBig(fromInt(new(big.Int).Neg(less))); f != mostFloat|floatSign || code != impl.ROk {
		t.Errorf("just above the lower limit: %#x, code %d", f, code)
	}
	room := new(big.Int).Sub(power2(impl.MaxLimbs*32), big.NewInt(1))
	for _, x := range []*big.Int{middle, new(big.Int).Add(middle, big.NewInt(1)), power2(1024), power2(1025), power2(2047), power2(2048), power2(4095), room} {
		bothSigns(x, func(x *big.Int) {
			if f, code := impl.FloatOfBig(fromInt(x)); f != 0 || code != impl.RLarge {
				t.Errorf("%v is no float: %#x, code %d", x, f, code)
			}
		})
	}
}

func TestP2FloatBig(t *testing.T) {
	for _, x := range append(finiteEdges(), someFloats(54, 5000)...) {
		r := exact(x)
		a, code := impl.FloatBig(x)
		check(t, a, code, new(big.Int).Quo(r.Num(), r.Denom()), "the whole part of", x)
	}
	for f, want := range map[float64]int64{0: 0, 0.5: 0, -0.5: 0, 0.9999999999999999: 0, -0.9999999999999999: 0, 1: 1, -1: -1, 1.5: 1, -1.5: -1, -1.9999999999999998: -1, 2.5: 2, -2.5: -2, -7.25: -7, 1e15: 1e15, -1e15: -1e15, 1 << 62: 1 << 62, -1 << 63: math.MinInt64, 5e-324: 0, -5e-324: 0} {
		if a, code := impl.FloatBig(bitsOf(f)); code != impl.ROk || !same(a, impl.BigOf(want)) {
			t.Error("the whole part of", f, "is", a, code)
		}
	}
	a, code := impl.FloatBig(minusZero)
	check(t, a, code, new(big.Int), "the whole part of -0")
	for _, x := range append(nans(), plusInf, minusInf) {
		a, code := impl.FloatBig(x)
		refused(t, a, code, impl.RArgs, "the whole part of", x)
	}
}

// wholeNumbers are numbers of at most 50 bits, of each length.
func wholeNumbers(seed int64) []int64 {
	r := rand.New(rand.NewSource(seed))
	list := []int64{0, 1, 2, 3, 7, 10, 1 << 49, 1<<50 - 1, 1<<50 - 2, 999999999999999}
	for i := range 400 {
		list = append(list, r.Int63()>>(13+i%50))
	}
	for _, x := range list {
		list = append(list, -x)
	}
	return list
}

func floatOf(t *testing.T, n int64) uint64 {
	t.Helper()
	x, code := impl.FloatOfBig(impl.BigOf(n))
	if code != impl.ROk {
		t.Fatal("the float of", n, "is refused:", code)
	}
	return x
}

func TestP2WholeNumbersAreExact(t *testing.T) {
	for _, n := range wholeNumbers(55) {
		x := floatOf(t, n)
		if a, code := impl.FloatBig(x); code != impl.ROk || !same(a, impl.BigOf(n)) {
			t.Error(n, "becomes", a, code)
		}
		if x != bitsOf(float64(n)) || impl.BigFloatCmp(impl.BigOf(n), x) != 0 {
			t.Errorf("%d is %#x", n, x)
		}
		if y := read(t, impl.BigText(impl.BigOf(n), 10)); y != x {
			t.Errorf("%d is read as %#x, not as %#x", n, y, x)
		}
	}
}

// As long as no result has more than 50 bits, floats count as integers do.
func TestP2WholeResultsAreExact(t *testing.T) {
	list := wholeNumbers(56)
	for i, n := range list {
		m := list[(i*31+7)%len(list)]
		x, y := floatOf(t, n), floatOf(t, m)
		wholeResult(t, impl.FAdd, x, y, big.NewInt(n+m))
		wholeResult(t, impl.FSub, x, y, big.NewInt(n-m))
		wholeResult(t, impl.FMul, x, y, new(big.Int).Mul(big.NewInt(n), big.NewInt(m)))
		if m != 0 {
			q, r := floorDivMod(big.NewInt(n), big.NewInt(m))
			wholeResult(t, impl.FFloor, x, y, q)
			wholeResult(t, impl.FMod, x, y, r)
			if r.Sign() == 0 {
				wholeResult(t, impl.FDiv, x, y, q)
			}
		}
	}
}

func wholeResult(t *testing.T, op int64, x uint64, y uint64, want *big.Int) {
	t.Helper()
	if want.BitLen() > 50 {
		return
	}
	z, code := impl.FloatOp(op, x, y)
	a, other := impl.FloatBig(z)
	if code != impl.ROk || other != impl.ROk || !same(a, fromInt(want)) {
		t.Errorf("op %d of %s and %s is %s; wanted %v", op, impl.FloatText(x), impl.FloatText(y), impl.FloatText(z), want)
	}
	if !exact(z).IsInt() {
		t.Errorf("op %d of %s and %s is not whole: %s", op, impl.FloatText(x), impl.FloatText(y), impl.FloatText(z))
	}
}

func checkBigFloat(t *testing.T, n *big.Int, x uint64) {
	t.Helper()
	want := int64(new(big.Rat).SetInt(n).Cmp(exact(x)))
	if c := impl.BigFloatCmp(fromInt(n), x); c != want {
		t.Errorf("%v against %s: %d; wanted %d", n, impl.FloatText(x), c, want)
	}
}

// Integers next to a float, on both sides, and the float's own whole part.
func TestP2CompareBigAndFloat(t *testing.T) {
	for _, x := range append(finiteEdges(), someFloats(57, 3000)...) {
		r := exact(x)
		whole := new(big.Int).Quo(r.Num(), r.Denom())
		for d := int64(-2); d <= 2; d++ {
			checkBigFloat(t, new(big.Int).Add(whole, big.NewInt(d)), x)
		}
		checkBigFloat(t, new(big.Int).Neg(whole), x)
	}
	for _, n := range append(edges(), someInts(58, 500, 40)...) {
		for _, x := range finiteEdges() {
			checkBigFloat(t, n, x)
		}
		if x, code := impl.FloatOfBig(fromInt(n)); code == impl.ROk {
			checkBigFloat(t, n, x)
			checkBigFloat(t, n, x^1)
			checkBigFloat(t, n, x^floatSign)
		}
	}
}

func TestP2CompareBigAndFloatByHand(t *testing.T) {
	for _, c := range []struct {
		n    int64
		x    float64
		want int64
	}{
		{0, 0, 0}, {0, math.Copysign(0, -1), 0}, {0, 5e-324, -1}, {0, -5e-324, 1}, {1, 0.5, 1}, {1, 1.5, -1}, {-1, -1.5, 1}, {-1, -0.5, -1}, {-2, -1.5, -1}, {2, 1.5, 1}, {1 << 53, 1 << 53, 0}, {1<<53 + 1, 1 << 53, 1}, {1<<53 - 1, 1 << 53, -1}, {-1<<53 - 1, -1 << 53, -1}, {math.MaxInt64, 1 << 63, -1}, {math.MinInt64, -1 << 63, 0}, {math.MaxInt64, 1e300, -1}, {math.MinInt64, -1e300, 1},
		{5, math.Inf(1), -1}, {5, math.Inf(-1), 1}, {0, math.Inf(1), -1}, {0, math.Inf(-1), 1}, {-5, math.Inf(1), -1}, {-5, math.Inf(-1), 1},
	} {
		if got := impl.BigFloatCmp(impl.BigOf(c.n), bitsOf(c.x)); got != c.want {
			t.Error(c.n, "against", c.x, "is", got)
		}
	}
	room := new(big.Int).Sub(power2(impl.MaxLimbs*32), big.NewInt(1))
	for x, want := range map[uint64]int64{plusInf: -1, minusInf: 1, mostFloat: 1, mostFloat | floatSign: 1} {
		if got := impl.BigFloatCmp(fromInt(room), x); got != want {
			t.Errorf("the greatest integer against %#x: %d", x, got)
		}
		if got := impl.BigFloatCmp(fromInt(new(big.Int).Neg(room)), x^floatSign); got != -want {
			t.Errorf("the least integer against %#x: %d", x^floatSign, got)
		}
	}
}

func TestP2CompareBigAndFloatRefused(t *testing.T) {
	for _, nan := range nans() {
		for _, n := range edges() {
			if c := impl.BigFloatCmp(fromInt(n), nan); c != 2 {
				t.Errorf("%v against %#x: %d", n, nan, c)
			}
		}
	}
	for _, bad := range wrongs() {
		for _, x := range append(floatEdges(), 0) {
			if c := impl.BigFloatCmp(bad, x); c != 2 {
				t.Errorf("no number %v against %#x: %d", bad, x, c)
			}
		}
	}
}
