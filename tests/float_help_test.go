package tests

import (
	"math"
	"math/big"
	"math/rand"
	"strings"
	"testing"

	"loop.example/g00009/impl"
)

const (
	plusInf     = 0x7ff0000000000000
	minusInf    = 0xfff0000000000000
	minusZero   = 1 << 63
	mostFloat   = 0x7fefffffffffffff
	leastNormal = 0x0010000000000000
	floatSign   = 1 << 63
)

// nans are NaNs of many bits: quiet and signalling ones, of both signs.
func nans() []uint64 {
	return []uint64{impl.FloatNan, impl.FloatNan + 1, impl.FloatNan | floatSign, plusInf + 1, minusInf + 1, math.MaxUint64, math.MaxInt64, 0x7ff4000000000000}
}

func isNan(x uint64) bool { return x&^floatSign > plusInf }

func isInf(x uint64) bool { return x&^floatSign == plusInf }

// finiteEdges are floats next to where something ends, of both signs.
func finiteEdges() []uint64 {
	list := []uint64{0, 1, 2, 3, leastNormal - 1, leastNormal - 2, leastNormal, leastNormal + 1, 2*leastNormal - 1, 2 * leastNormal, mostFloat, mostFloat - 1, 0x7fe0000000000000, 0x7fdfffffffffffff}
	for _, f := range []float64{0.1, 0.2, 0.3, 0.5, 0.75, 1, 1.5, 2, 2.5, 3, 5, 7, 10, 1e-5, 1e-4, 1e15, 1e16, 1e22, 1e23, 1 << 31, 1 << 32, 1 << 50, 1 << 52, 1 << 53, 1 << 62, 1 << 63, 1 << 64, 1e100, 1e-100, 1e-300, 1e300} {
		x := math.Float64bits(f)
		list = append(list, x-1, x, x+1)
	}
	for _, x := range list {
		list = append(list, x|floatSign)
	}
	return list
}

// floatEdges are these, and infinities, and NaNs.
func floatEdges() []uint64 {
	return append(append(finiteEdges(), plusInf, minusInf), nans()...)
}

// someFloats are n finite floats, always the same ones: of any exponent, next
// to 1, subnormal, with few digits, whole.
func someFloats(seed int64, n int) []uint64 {
	r := rand.New(rand.NewSource(seed))
	out := make([]uint64, 0, n)
	for len(out) < n {
		x := r.Uint64()
		switch r.Intn(6) {
		case 1:
			x = x&(1<<52-1) | uint64(1003+r.Intn(40))<<52
		case 2:
			x >>= 12 + r.Intn(52)
		case 3:
			x = math.Float64bits(float64(r.Intn(100000)) / math.Pow10(r.Intn(12)))
		case 4:
			x = math.Float64bits(float64(r.Int63() >> r.Intn(63)))
		case 5:
			x &= math.MaxUint64 << (30 + r.Intn(22))
		}
		if r.Intn(2) == 0 {
			x ^= floatSign
		}
		if !isNan(x) && !isInf(x) {
			out = append(out, x)
		}
	}
	return out
}

// exact is the number that a finite float is, taken from its bits.
func exact(x uint64) *big.Rat {
	fraction, exponent := x&(1<<52-1), int(x>>52&0x7ff)
	if exponent > 0 {
		fraction |= 1 << 52
	} else {
		exponent = 1
	}
	num, den := new(big.Int).SetUint64(fraction), big.NewInt(1)
	if exponent >= 1075 {
		num.Lsh(num, uint(exponent-1075))
	} else {
		den.Lsh(den, uint(1075-exponent))
	}
	if x&floatSign != 0 {
		num.Neg(num)
	}
	return new(big.Rat).SetFrac(num, den)
}

// nearest rounds a number that is not 0; one that is rounded to 0 keeps its sign.
func nearest(r *big.Rat) uint64 {
	f, _ := r.Float64()
	x := math.Float64bits(f) &^ floatSign
	if r.Sign() < 0 {
		x |= floatSign
	}
	return x
}

// read wants a text to be a float.
func read(t *testing.T, s string) uint64 {
	t.Helper()
	x, ok := impl.FloatRead(s)
	if !ok {
		t.Fatalf("%q is not read", s)
	}
	return x
}

// unread wants 0 and false.
func unread(t *testing.T, s string) {
	t.Helper()
	if x, ok := impl.FloatRead(s); ok || x != 0 {
		t.Errorf("%q is read as %#x, %v", s, x, ok)
	}
}

// readAs wants a text to be that float, and with a minus sign the one below 0.
func readAs(t *testing.T, s string, want uint64) {
	t.Helper()
	if x, ok := impl.FloatRead(s); !ok || x != want {
		t.Errorf("%s is read as %#x, %v; wanted %#x", s, x, ok, want)
	}
	if x, ok := impl.FloatRead("-" + s); len(s) < impl.MaxFloatText && (!ok || x != want|floatSign) {
		t.Errorf("-%s is read as %#x, %v; wanted %#x", s, x, ok, want|floatSign)
	}
}

// decimals are the digits of a number above 0 whose denominator is a power of
// 2, and the exponent that stands behind them.
func decimals(r *big.Rat) (string, int) {
	n := r.Denom().BitLen() - 1
	num := new(big.Int).Exp(big.NewInt(5), big.NewInt(int64(n)), nil)
	digits := num.Mul(num, r.Num()).String()
	short := strings.TrimRight(digits, "0")
	return short, len(digits) - len(short) - n
}

// half is the number in the middle between a float above 0 and the next one.
func half(x uint64) *big.Rat {
	upper := new(big.Rat).SetInt(power2(1024))
	if x != mostFloat {
		upper = exact(x + 1)
	}
	sum := new(big.Rat).Add(exact(x), upper)
	return sum.Mul(sum, big.NewRat(1, 2))
}
