package tests

import (
	"math/big"
	"math/rand"
	"slices"
	"testing"

	"loop.example/g00009/impl"
)

// spareMark fills the spare room behind an argument's limbs.
const spareMark = 0xabcd1234

// limbsOf makes limbs with spare room behind them, as a careless caller has it.
func limbsOf(list ...uint32) []uint32 {
	out := slices.Repeat([]uint32{spareMark}, len(list)+4)
	copy(out, list)
	return out[:len(list)]
}

func fromInt(x *big.Int) impl.Big {
	var list []uint32
	rest := new(big.Int).Abs(x)
	for rest.Sign() > 0 {
		list = append(list, uint32(rest.Uint64()))
		rest.Rsh(rest, 32)
	}
	return impl.Big{Neg: x.Sign() < 0, Mag: limbsOf(list...)}
}

func toInt(a impl.Big) *big.Int {
	out := new(big.Int)
	for _, x := range slices.Backward(a.Mag) {
		out.Lsh(out, 32)
		out.Or(out, new(big.Int).SetUint64(uint64(x)))
	}
	if a.Neg {
		out.Neg(out)
	}
	return out
}

func power2(n uint) *big.Int { return new(big.Int).Lsh(big.NewInt(1), n) }

func isZero(a impl.Big) bool { return !a.Neg && len(a.Mag) == 0 }

func same(a impl.Big, b impl.Big) bool { return a.Neg == b.Neg && slices.Equal(a.Mag, b.Mag) }

// fits tells whether x has at most MaxLimbs limbs.
func fits(x *big.Int) bool { return x.BitLen() <= impl.MaxLimbs*32 }

// edges are numbers next to where a limb, an int64 or the whole room ends, of
// both signs, with the bit patterns that make a division's guesses go wrong.
func edges() []*big.Int {
	var out []*big.Int
	both := func(x *big.Int) {
		out = append(out, x)
		if x.Sign() != 0 {
			out = append(out, new(big.Int).Neg(x))
		}
	}
	for _, n := range []int64{0, 1, 2, 3, 7, 10, 12, 255} {
		both(big.NewInt(n))
	}
	for _, n := range []uint{31, 32, 33, 63, 64, 65, 95, 96, 128, 2047, 2048, 4064, 4095, 4096} {
		for _, d := range []int64{-2, -1, 0, 1, 2} {
			if x := new(big.Int).Add(power2(n), big.NewInt(d)); fits(x) {
				both(x)
			}
		}
	}
	for _, s := range []string{
		"7fffffff800000010000000000000000",
		"800000000000000000000003",
		"200000000000000000000001",
		"80000000fffffffe00000000",
		"80000000ffffffff",
		"ffffffff00000000ffffffff00000000ffffffff",
		"fffffffffffffffefffffffffffffffeffffffff",
	} {
		x, _ := new(big.Int).SetString(s, 16)
		both(x)
	}
	return out
}

// someInts are n numbers of many lengths, always the same ones. Their limbs
// are often all zeros or all ones.
func someInts(seed int64, n int, limbs int) []*big.Int {
	r := rand.New(rand.NewSource(seed))
	out := make([]*big.Int, n)
	for i := range out {
		out[i] = new(big.Int)
		for range 1 + r.Intn(limbs) {
			x := [...]uint32{0, 1, 0x7fffffff, 0x80000000, 0xffffffff, r.Uint32(), r.Uint32(), r.Uint32()}[r.Intn(8)]
			out[i].Lsh(out[i], 32)
			out[i].Or(out[i], new(big.Int).SetUint64(uint64(x)))
		}
		if r.Intn(2) == 0 {
			out[i].Neg(out[i])
		}
	}
	return out
}

// pairs calls f with each two of the edges and with random pairs.
func pairs(f func(x *big.Int, y *big.Int)) {
	list := edges()
	for _, x := range list {
		for _, y := range list {
			f(x, y)
		}
	}
	short, long := someInts(1, 3000, 6), someInts(2, 3000, impl.MaxLimbs)
	for i := range short {
		f(short[i], short[len(short)-1-i])
		f(long[i], short[i])
		f(short[i], long[i])
		f(long[i], long[len(long)-1-i])
	}
}

// wrongs are numbers that are not BigOk.
func wrongs() []impl.Big {
	full := slices.Repeat([]uint32{1}, impl.MaxLimbs+1)
	high := slices.Clone(full)
	high[impl.MaxLimbs] = 0
	return []impl.Big{
		{Neg: true},
		{Neg: true, Mag: limbsOf()},
		{Mag: limbsOf(0)},
		{Neg: true, Mag: limbsOf(0)},
		{Mag: limbsOf(0, 0)},
		{Mag: limbsOf(5, 0)},
		{Neg: true, Mag: limbsOf(5, 7, 0)},
		{Mag: limbsOf(full...)},
		{Neg: true, Mag: limbsOf(full...)},
		{Mag: limbsOf(high...)},
		{Mag: limbsOf(slices.Repeat([]uint32{1}, 1000)...)},
	}
}

// check holds an answer with a code against the integer that it should be.
func check(t *testing.T, got impl.Big, code int64, want *big.Int, what ...any) {
	t.Helper()
	if !fits(want) {
		refused(t, got, code, impl.RLarge, what...)
		return
	}
	if code != impl.ROk || !impl.BigOk(got) || toInt(got).Cmp(want) != 0 {
		t.Errorf("%v: %v, code %d; wanted %v", what, got, code, want)
	}
}

// refused wants the zero value and that code.
func refused(t *testing.T, got impl.Big, code int64, want int64, what ...any) {
	t.Helper()
	if code != want || !isZero(got) {
		t.Errorf("%v: %v, code %d; wanted the zero value and code %d", what, got, code, want)
	}
}
