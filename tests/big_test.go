package tests

import (
	"fmt"
	"math"
	"math/big"
	"slices"
	"strings"
	"testing"

	"loop.example/g00009/impl"
)

func TestBigConstants(t *testing.T) {
	got := []int64{impl.ROk, impl.RArgs, impl.RZero, impl.RLarge, impl.RNeg, impl.BitAnd, impl.BitOr, impl.BitXor, impl.MaxText, impl.MaxLimbs, impl.MaxDigits}
	want := []int64{0, 1, 2, 3, 4, 1, 2, 3, 16384, 128, 5000}
	if !slices.Equal(got, want) {
		t.Error(got, "wanted", want)
	}
}

func TestP1Ok(t *testing.T) {
	full := slices.Repeat([]uint32{0}, impl.MaxLimbs)
	full[impl.MaxLimbs-1] = 1
	for _, a := range []impl.Big{{}, {Mag: []uint32{}}, {Mag: []uint32{1}}, {Neg: true, Mag: []uint32{1}}, {Mag: []uint32{0, 1}}, {Mag: full}, {Neg: true, Mag: full}} {
		if !impl.BigOk(a) {
			t.Error("is a number:", a)
		}
	}
	for _, a := range wrongs() {
		if impl.BigOk(a) {
			t.Error("is no number:", a)
		}
	}
}

func TestP1Int64(t *testing.T) {
	for _, x := range []int64{0, 1, -1, 2, -2, math.MaxInt32, math.MinInt32, 1<<32 - 1, 1 << 32, 1<<32 + 1, -1 << 32, math.MaxInt64, math.MaxInt64 - 1, math.MinInt64, math.MinInt64 + 1} {
		a := impl.BigOf(x)
		if !impl.BigOk(a) || toInt(a).Cmp(big.NewInt(x)) != 0 {
			t.Error("BigOf", x, "is", a)
		}
		if y, ok := impl.BigInt(a); !ok || y != x {
			t.Error("BigInt of", x, "is", y, ok)
		}
	}
	for _, x := range append(edges(), someInts(3, 300, 4)...) {
		want := int64(0)
		if x.IsInt64() {
			want = x.Int64()
		}
		if y, ok := impl.BigInt(fromInt(x)); y != want || ok != x.IsInt64() {
			t.Error("BigInt of", x, "is", y, ok)
		}
	}
	for _, a := range wrongs() {
		if y, ok := impl.BigInt(a); y != 0 || ok {
			t.Error("BigInt of no number", a, "is", y, ok)
		}
	}
}

func TestP1Texts(t *testing.T) {
	list := append(edges(), someInts(4, 60, impl.MaxLimbs)...)
	for base := int64(2); base <= 36; base++ {
		for _, x := range list {
			s := impl.BigText(fromInt(x), base)
			if s != x.Text(int(base)) {
				t.Fatalf("base %d: %s; wanted %s", base, s, x.Text(int(base)))
			}
			a, ok := impl.BigRead(s, base)
			if !ok || !same(a, fromInt(x)) {
				t.Fatalf("base %d: %s is read as %v %v", base, s, a, ok)
			}
		}
	}
}

func TestP1TextsRefused(t *testing.T) {
	for _, base := range []int64{math.MinInt64, -10, -1, 0, 1, 37, 62, 1<<32 + 10, math.MaxInt64} {
		if s := impl.BigText(impl.BigOf(1), base); s != "" {
			t.Error("a text in base", base, "is", s)
		}
		if a, ok := impl.BigRead("1", base); ok || !isZero(a) {
			t.Error("read in base", base, "as", a)
		}
	}
	for base := int64(1); base <= 37; base++ {
		for _, a := range wrongs() {
			if s := impl.BigText(a, base); s != "" {
				t.Error("the text of no number", a, "is", s)
			}
		}
	}
}

func TestP1ReadSigns(t *testing.T) {
	for _, s := range []string{"0", "-0", "00", "-000", strings.Repeat("0", impl.MaxDigits), "-" + strings.Repeat("0", impl.MaxDigits-1)} {
		for base := int64(2); base <= 36; base++ {
			if a, ok := impl.BigRead(s, base); !ok || !isZero(a) {
				t.Fatalf("base %d: a text of %d bytes for 0 is read as %v %v", base, len(s), a, ok)
			}
		}
	}
	if a, ok := impl.BigRead("-0012", 10); !ok || !same(a, impl.BigOf(-12)) {
		t.Error("zeros in front:", a, ok)
	}
	wrong := []string{"", "-", "--1", "-+1", "+1", "+", "1-", " 1", "1 ", "- 1", "1_0", "1.0", "1,0", "0x1", "1\n", "1\x00", "\x00", "/", ":", "`", "{", "é", "１", "\xff", "-\xff1"}
	for _, s := range wrong {
		if a, ok := impl.BigRead(s, 10); ok || !isZero(a) {
			t.Errorf("%q is read as %v", s, a)
		}
	}
}

// Each byte is a digit in just the bases above its value, wherever it stands.
func TestP1ReadDigits(t *testing.T) {
	const signs = "0123456789abcdefghijklmnopqrstuvwxyz"
	for base := int64(2); base <= 36; base++ {
		for c := range 256 {
			value := int64(strings.IndexByte(signs, byte(c)))
			for _, s := range []string{string([]byte{byte(c)}), "1" + string([]byte{byte(c)}), "1" + strings.Repeat("0", 40) + string([]byte{byte(c)}), string([]byte{byte(c)}) + strings.Repeat("0", 40)} {
				a, ok := impl.BigRead(s, base)
				minus := c == '-' && s[0] == '-' && len(s) > 1
				if want := value >= 0 && value < base || minus; ok != want {
					t.Fatalf("base %d: %q is read as %v %v", base, s, a, ok)
				}
				if !ok && !isZero(a) {
					t.Fatalf("base %d: %q is refused with %v", base, s, a)
				}
			}
		}
		for _, s := range []string{"A", "Z", "1A", "F", "FF"} {
			if _, ok := impl.BigRead(s, base); ok {
				t.Errorf("base %d: the capital %s is read", base, s)
			}
		}
	}
}

func TestP1ReadLimits(t *testing.T) {
	most := new(big.Int).Sub(power2(impl.MaxLimbs*32), big.NewInt(1))
	for base := 2; base <= 36; base++ {
		for _, sign := range []string{"", "-"} {
			s := most.Text(base)
			s = sign + strings.Repeat("0", impl.MaxDigits-len(s)-len(sign)) + s
			a, ok := impl.BigRead(s, int64(base))
			if !ok || len(a.Mag) != impl.MaxLimbs || toInt(a).CmpAbs(most) != 0 || a.Neg != (sign == "-") {
				t.Errorf("base %d: the greatest in MaxDigits bytes: %v %v", base, a, ok)
			}
			longer := sign + "0" + s[len(sign):]
			if a, ok := impl.BigRead(longer, int64(base)); ok || !isZero(a) {
				t.Errorf("base %d: a text of %d bytes is read as %v", base, len(longer), a)
			}
			beyond := sign + power2(impl.MaxLimbs*32).Text(base)
			if a, ok := impl.BigRead(beyond, int64(base)); ok || !isZero(a) {
				t.Errorf("base %d: a limb more than MaxLimbs is read as %v", base, a)
			}
			ones := sign + strings.Repeat("1", impl.MaxDigits-len(sign))
			if a, ok := impl.BigRead(ones, int64(base)); ok || !isZero(a) {
				t.Errorf("base %d: %d ones are read as %v", base, impl.MaxDigits, a)
			}
		}
	}
}

func TestP1Compare(t *testing.T) {
	pairs(func(x *big.Int, y *big.Int) {
		if c := impl.BigCmp(fromInt(x), fromInt(y)); c != int64(x.Cmp(y)) {
			t.Errorf("%v against %v: %d", x, y, c)
		}
	})
	if c := impl.BigCmp(impl.Big{}, impl.Big{Mag: []uint32{}}); c != 0 {
		t.Error("nil and an empty list are the same:", c)
	}
	for _, bad := range wrongs() {
		for _, good := range []impl.Big{{}, impl.BigOf(1), impl.BigOf(-1)} {
			if impl.BigCmp(bad, good) != 2 || impl.BigCmp(good, bad) != 2 || impl.BigCmp(bad, bad) != 2 {
				t.Error("no number is compared:", bad)
			}
		}
	}
}

func TestP1Bits(t *testing.T) {
	for _, x := range append(edges(), someInts(5, 300, impl.MaxLimbs)...) {
		if n := impl.BigBits(fromInt(x)); n != int64(x.BitLen()) {
			t.Errorf("%v has %d binary digits", x, n)
		}
	}
	for _, a := range wrongs() {
		if n := impl.BigBits(a); n != -1 {
			t.Error("no number", a, "has binary digits:", n)
		}
	}
}

func TestP1SumsAndProducts(t *testing.T) {
	pairs(func(x *big.Int, y *big.Int) {
		a, b := fromInt(x), fromInt(y)
		got, code := impl.BigAdd(a, b)
		check(t, got, code, new(big.Int).Add(x, y), x, "+", y)
		got, code = impl.BigSub(a, b)
		check(t, got, code, new(big.Int).Sub(x, y), x, "-", y)
		got, code = impl.BigMul(a, b)
		check(t, got, code, new(big.Int).Mul(x, y), x, "*", y)
	})
}

func TestP1QuotientsAndRemainders(t *testing.T) {
	pairs(func(x *big.Int, y *big.Int) {
		q, r, code := impl.BigDivMod(fromInt(x), fromInt(y))
		if y.Sign() == 0 {
			if code != impl.RZero || !isZero(q) || !isZero(r) {
				t.Errorf("%v by 0: %v %v, code %d", x, q, r, code)
			}
			return
		}
		wantQ, wantR := floorDivMod(x, y)
		check(t, q, code, wantQ, x, "//", y)
		check(t, r, code, wantR, x, "%", y)
	})
}

// floorDivMod rounds down; the library's own pairs round to 0 or by the rest.
func floorDivMod(x *big.Int, y *big.Int) (*big.Int, *big.Int) {
	q, r := new(big.Int).QuoRem(x, y, new(big.Int))
	if r.Sign() != 0 && r.Sign() != y.Sign() {
		q.Sub(q, big.NewInt(1))
		r.Add(r, y)
	}
	return q, r
}

func TestP1QuotientsByHand(t *testing.T) {
	for _, c := range [][4]int64{{7, 2, 3, 1}, {-7, 2, -4, 1}, {7, -2, -4, -1}, {-7, -2, 3, -1}, {6, -2, -3, 0}, {-6, 2, -3, 0}, {-6, -2, 3, 0}, {0, -5, 0, 0}, {1, -5, -1, -4}, {-1, 5, -1, 4}, {-1, -5, 0, -1}, {math.MinInt64, 1, math.MinInt64, 0}} {
		q, r, code := impl.BigDivMod(impl.BigOf(c[0]), impl.BigOf(c[1]))
		if code != impl.ROk || !same(q, impl.BigOf(c[2])) || !same(r, impl.BigOf(c[3])) {
			t.Error(c, "is", q, r, code)
		}
	}
}

func TestP1Powers(t *testing.T) {
	list := append(edges(), someInts(6, 60, 8)...)
	for _, x := range list {
		for _, n := range []int64{0, 1, 2, 3, 4, 5, 7, 8, 15, 16, 31, 32, 33, 63, 64, 127, 128, 129, 255, 1000, 2047, 2048, 2049, 4095, 4096, 4097} {
			got, code := impl.BigPow(fromInt(x), n)
			check(t, got, code, powerOrMore(x, n), x, "**", n)
		}
		for _, n := range []int64{-1, -2, -64, math.MinInt64 + 1, math.MinInt64} {
			got, code := impl.BigPow(fromInt(x), n)
			refused(t, got, code, impl.RNeg, x, "**", n)
		}
	}
}

// powerOrMore is x to the n, or for what is far too large some number that is
// too large as well.
func powerOrMore(x *big.Int, n int64) *big.Int {
	if int64(x.BitLen()-1)*n > 2*impl.MaxLimbs*32 {
		return power2(impl.MaxLimbs * 32)
	}
	return new(big.Int).Exp(x, big.NewInt(n), nil)
}

// Powers of at most MaxLimbs limbs are right up to the last one that fits.
func TestP1PowersUpToTheLimit(t *testing.T) {
	for _, x := range []int64{2, -2, 3, -3, 10, -10, 255, 256, 65535, 1<<32 - 1, 1 << 32, -1 << 32, math.MaxInt64, math.MinInt64} {
		want := big.NewInt(1)
		for n := int64(0); ; n++ {
			got, code := impl.BigPow(impl.BigOf(x), n)
			check(t, got, code, want, x, "**", n)
			if !fits(want) {
				break
			}
			want.Mul(want, big.NewInt(x))
		}
	}
}

func TestP1PowersOfVeryGreatCounts(t *testing.T) {
	for _, n := range []int64{1 << 20, 1 << 32, 1<<32 + 1, math.MaxInt64 - 1, math.MaxInt64} {
		for x, want := range map[int64]int64{0: 0, 1: 1, -1: 1 - 2*(n%2)} {
			got, code := impl.BigPow(impl.BigOf(x), n)
			check(t, got, code, big.NewInt(want), x, "**", n)
		}
		for _, x := range edges() {
			if x.BitLen() > 1 {
				got, code := impl.BigPow(fromInt(x), n)
				refused(t, got, code, impl.RLarge, x, "**", n)
			}
		}
	}
}

func TestP1Moves(t *testing.T) {
	list := append(edges(), someInts(7, 100, impl.MaxLimbs)...)
	for _, x := range list {
		for _, n := range []int64{0, 1, 2, 5, 31, 32, 33, 63, 64, 65, 100, 2047, 2048, 4000, 4063, 4064, 4094, 4095, 4096, 4097, 5000} {
			got, code := impl.BigShift(fromInt(x), n)
			check(t, got, code, new(big.Int).Lsh(x, uint(n)), x, "<<", n)
			got, code = impl.BigShift(fromInt(x), -n)
			check(t, got, code, new(big.Int).Rsh(x, uint(n)), x, ">>", n)
		}
	}
}

func TestP1MovesOfVeryGreatCounts(t *testing.T) {
	for _, x := range edges() {
		for _, n := range []int64{1 << 20, 1 << 31, 1 << 32, 1<<32 + 1, math.MaxInt64 - 1, math.MaxInt64} {
			got, code := impl.BigShift(fromInt(x), n)
			if x.Sign() == 0 {
				check(t, got, code, x, "0 <<", n)
			} else {
				refused(t, got, code, impl.RLarge, x, "<<", n)
			}
		}
		end := big.NewInt(0)
		if x.Sign() < 0 {
			end = big.NewInt(-1)
		}
		for _, n := range []int64{-1 << 20, -1 << 31, -1 << 32, -1<<32 - 1, math.MinInt64 + 1, math.MinInt64} {
			got, code := impl.BigShift(fromInt(x), n)
			check(t, got, code, end, x, "<<", n)
		}
	}
}

func TestP1BitOperations(t *testing.T) {
	pairs(func(x *big.Int, y *big.Int) {
		a, b := fromInt(x), fromInt(y)
		got, code := impl.BigBit(impl.BitAnd, a, b)
		check(t, got, code, new(big.Int).And(x, y), x, "&", y)
		got, code = impl.BigBit(impl.BitOr, a, b)
		check(t, got, code, new(big.Int).Or(x, y), x, "|", y)
		got, code = impl.BigBit(impl.BitXor, a, b)
		check(t, got, code, new(big.Int).Xor(x, y), x, "^", y)
	})
}

func TestP1BitOperationsThatAreNone(t *testing.T) {
	for _, op := range []int64{math.MinInt64, -1, 0, 4, 5, 1<<32 + 1, math.MaxInt64} {
		got, code := impl.BigBit(op, impl.BigOf(6), impl.BigOf(3))
		refused(t, got, code, impl.RArgs, "op", op)
	}
}

// What is too large by one: the last result that fits and the next one.
func TestP1Limits(t *testing.T) {
	most := new(big.Int).Sub(power2(impl.MaxLimbs*32), big.NewInt(1))
	a, least := fromInt(most), fromInt(new(big.Int).Neg(most))
	one, zero := impl.BigOf(1), impl.BigOf(0)
	for _, x := range []impl.Big{a, least} {
		got, code := impl.BigAdd(x, zero)
		check(t, got, code, toInt(x), "the greatest + 0")
		got, code = impl.BigMul(x, impl.BigOf(-1))
		check(t, got, code, new(big.Int).Neg(toInt(x)), "the greatest * -1")
	}
	got, code := impl.BigAdd(a, one)
	refused(t, got, code, impl.RLarge, "the greatest + 1")
	got, code = impl.BigSub(least, one)
	refused(t, got, code, impl.RLarge, "the least - 1")
	got, code = impl.BigShift(one, impl.MaxLimbs*32)
	refused(t, got, code, impl.RLarge, "1 << 4096")
	// -2 to the 4096 has one limb more than either number that makes it.
	got, code = impl.BigBit(impl.BitAnd, least, fromInt(new(big.Int).Sub(big.NewInt(2), power2(impl.MaxLimbs*32))))
	refused(t, got, code, impl.RLarge, "and")
	got, code = impl.BigBit(impl.BitXor, least, one)
	refused(t, got, code, impl.RLarge, "xor")
}

func TestP1WrongNumbers(t *testing.T) {
	two := map[string]func(impl.Big, impl.Big) (impl.Big, int64){
		"BigAdd": impl.BigAdd, "BigSub": impl.BigSub, "BigMul": impl.BigMul,
		"BigDivMod": func(a impl.Big, b impl.Big) (impl.Big, int64) {
			q, r, code := impl.BigDivMod(a, b)
			if !isZero(q) {
				t.Error("a quotient", q, "of no number")
			}
			return r, code
		},
	}
	for _, op := range []int64{0, impl.BitAnd, impl.BitOr, impl.BitXor, 4} {
		two[fmt.Sprint("BigBit ", op)] = func(a impl.Big, b impl.Big) (impl.Big, int64) { return impl.BigBit(op, a, b) }
	}
	for _, bad := range wrongs() {
		for name, f := range two {
			// 0 is among them: a wrong number is told ahead of a division by it.
			for _, good := range []impl.Big{{}, impl.BigOf(1), impl.BigOf(-3), fromInt(power2(4095))} {
				got, code := f(bad, good)
				refused(t, got, code, impl.RArgs, name+" of no number")
				got, code = f(good, bad)
				refused(t, got, code, impl.RArgs, name+" by no number")
			}
			got, code := f(bad, bad)
			refused(t, got, code, impl.RArgs, name+" of none at all")
		}
		for _, n := range []int64{math.MinInt64, -1, 0, 1, 2, 4096, math.MaxInt64} {
			got, code := impl.BigPow(bad, n)
			refused(t, got, code, impl.RArgs, "no number **", n)
			got, code = impl.BigShift(bad, n)
			refused(t, got, code, impl.RArgs, "no number <<", n)
		}
	}
}
