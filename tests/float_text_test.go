package tests

import (
	"math"
	"math/big"
	"strconv"
	"strings"
	"testing"

	"loop.example/g00009/impl"
)

func TestP2TextByHand(t *testing.T) {
	for x, want := range map[uint64]string{
		0: "0.0", 1: "5e-324", 2: "1e-323", 3: "1.5e-323", leastNormal - 1: "2.225073858507201e-308", leastNormal: "2.2250738585072014e-308", mostFloat: "1.7976931348623157e+308", mostFloat - 1: "1.7976931348623155e+308", plusInf: "inf",
		bitsOf(1): "1.0", bitsOf(10): "10.0", bitsOf(100): "100.0", bitsOf(1.5): "1.5", bitsOf(0.5): "0.5", bitsOf(123.456): "123.456", bitsOf(120): "120.0", bitsOf(0.1): "0.1",
		bitsOf(0.0001): "0.0001", bitsOf(0.00015): "0.00015", bitsOf(0.00012345678901234567): "0.00012345678901234567", bitsOf(0.00001): "1e-05", bitsOf(0.000015): "1.5e-05", bitsOf(0.000099): "9.9e-05", bitsOf(1.5e-7): "1.5e-07", bitsOf(1e-10): "1e-10", bitsOf(1e-99): "1e-99", bitsOf(1e-100): "1e-100", bitsOf(1.25e-100): "1.25e-100",
		bitsOf(1e15): "1000000000000000.0", bitsOf(1.5e15): "1500000000000000.0", bitsOf(999999999999999): "999999999999999.0", bitsOf(9999999999999998): "9999999999999998.0", bitsOf(1234567890123456): "1234567890123456.0", bitsOf(1e16): "1e+16", bitsOf(1.5e16): "1.5e+16", bitsOf(12345678901234568): "1.2345678901234568e+16", bitsOf(1e22): "1e+22", bitsOf(1e23): "1e+23", bitsOf(1e99): "1e+99", bitsOf(1e100): "1e+100", bitsOf(1.5e300): "1.5e+300",
		bitsOf(1 << 53): "9007199254740992.0", bitsOf(100000.5): "100000.5", bitsOf(2251799813685248.5): "2251799813685248.5", bitsOf(0.30000000000000004): "0.30000000000000004", bitsOf(12345.6789): "12345.6789", bitsOf(1.0 / 3): "0.3333333333333333", bitsOf(2.0 / 3): "0.6666666666666666",
	} {
		if s := impl.FloatText(x); s != want {
			t.Errorf("%#x is %s; wanted %s", x, s, want)
		}
		if s := impl.FloatText(x | floatSign); s != "-"+want {
			t.Errorf("%#x is %s; wanted -%s", x|floatSign, s, want)
		}
	}
	for _, x := range nans() {
		if s := impl.FloatText(x); s != "nan" {
			t.Errorf("%#x is %s", x, s)
		}
	}
}

func bitsOf(f float64) uint64 { return math.Float64bits(f) }

// The lower neighbour of these is nearer than the upper one. A number with few
// digits lies above them, and is read as them, but another is as near or nearer,
// which is not: so they have one digit more.
func TestP2TextOfPowersOfTwo(t *testing.T) {
	for n, want := range map[int]string{
		-1017: "7.1202363472230444e-307", -383: "5.0758836746312984e-116", -44: "5.6843418860808015e-14", -24: "5.9604644775390625e-08", 89: "6.1897001964269014e+26", 122: "5.3169119831396635e+36", 976: "6.3866889905111034e+293",
		-25: "2.9802322387695312e-08", -23: "1.1920928955078125e-07", -1: "0.5", 60: "1.152921504606847e+18",
	} {
		if s := impl.FloatText(bitsOf(math.Ldexp(1, n))); s != want {
			t.Errorf("2 to the %d is %s; wanted %s", n, s, want)
		}
	}
}

// textScale makes each float and each decimal number of at most 17 digits that
// is near to one a whole number.
func textScale() *big.Int {
	ten := new(big.Int).Exp(big.NewInt(10), big.NewInt(342), nil)
	return ten.Lsh(ten, 1076)
}

// ruleText writes a float above 0 by the document's words, in whole numbers.
func ruleText(x uint64, scale *big.Int) string {
	size := scaled(exact(x), scale)
	e := 1 + int(math.Log10(math.Float64frombits(x)))
	for scaledTen(e, scale).Cmp(size) > 0 {
		e--
	}
	for k := 1; k <= 17; k++ {
		digits, top := nearestDigits(size, scaledTen(e-k+1, scale), k)
		number := new(big.Int).Mul(digits, scaledTen(top+e-k+1, scale))
		if isReadAs(number, x, scale) {
			return ruleForm(digits.String(), top+e)
		}
	}
	return "no digits"
}

func scaled(r *big.Rat, scale *big.Int) *big.Int {
	out := new(big.Int).Mul(r.Num(), scale)
	return out.Quo(out, r.Denom())
}

// scaledTen is 10 to the n.
func scaledTen(n int, scale *big.Int) *big.Int {
	ten := new(big.Int).Exp(big.NewInt(10), big.NewInt(int64(max(n, -n))), nil)
	if n < 0 {
		return ten.Quo(scale, ten)
	}
	return ten.Mul(ten, scale)
}

// nearestDigits rounds to k digits, to the even one if two are as near, and
// tells by how much the exponent grew.
func nearestDigits(size *big.Int, unit *big.Int, k int) (*big.Int, int) {
	digits, rest := new(big.Int).QuoRem(size, unit, new(big.Int))
	switch rest.Lsh(rest, 1).Cmp(unit) {
	case 0:
		digits.Add(digits, big.NewInt(int64(digits.Bit(0))))
	case 1:
		digits.Add(digits, big.NewInt(1))
	}
	if len(digits.String()) > k {
		return digits.Quo(digits, big.NewInt(10)), 1
	}
	return digits, 0
}

// isReadAs holds a number against the middles between x and its neighbours.
func isReadAs(number *big.Int, x uint64, scale *big.Int) bool {
	low, high := number.Cmp(scaled(half(x-1), scale)), number.Cmp(scaled(half(x), scale))
	if x%2 == 0 {
		return low >= 0 && high <= 0
	}
	return low > 0 && high < 0
}

func ruleForm(digits string, e int) string {
	n := len(digits)
	switch {
	case e < -4 || e > 15:
		sign := "+"
		if e < 0 {
			sign, e = "-", -e
		}
		text := strconv.Itoa(e)
		if len(text) < 2 {
			text = "0" + text
		}
		if n > 1 {
			digits = digits[:1] + "." + digits[1:]
		}
		return digits + "e" + sign + text
	case e < 0:
		return "0." + zeros(-e-1) + digits
	case n <= e+1:
		return digits + zeros(e+1-n) + ".0"
	}
	return digits[:e+1] + "." + digits[e+1:]
}

func TestP2TextByTheRule(t *testing.T) {
	scale := textScale()
	list := append(someFloats(31, 1500), finiteEdges()...)
	for n := -1074; n <= 1023; n++ {
		list = append(list, bitsOf(math.Ldexp(1, n)))
	}
	for n := -320; n <= 308; n++ {
		x := bitsOf(math.Pow10(n))
		list = append(list, x-1, x, x+1)
	}
	for _, x := range list {
		x &^= floatSign
		if x == 0 {
			continue
		}
		want := ruleText(x, scale)
		if s := impl.FloatText(x); s != want {
			t.Errorf("%#x is %s; wanted %s", x, s, want)
		}
		if s := impl.FloatText(x | floatSign); s != "-"+want {
			t.Errorf("%#x is %s; wanted -%s", x|floatSign, s, want)
		}
	}
}

func TestP2TextIsReadBack(t *testing.T) {
	list := append(someFloats(32, 40000), finiteEdges()...)
	for n := -1074; n <= 1023; n++ {
		x := bitsOf(math.Ldexp(1, n))
		list = append(list, x-1, x, x+1, x|floatSign)
	}
	for _, x := range append(list, plusInf, minusInf, impl.FloatNan) {
		s := impl.FloatText(x)
		if y, ok := impl.FloatRead(s); !ok || y != x {
			t.Fatalf("%#x is written as %s and read as %#x, %v", x, s, y, ok)
		}
	}
}

// Each number of digits, with each exponent next to where the form changes.
func TestP2TextOfEachLength(t *testing.T) {
	seen := map[int]bool{}
	for k := 1; k <= 17; k++ {
		for _, e := range []int{-300, -100, -99, -10, -6, -5, -4, -3, -1, 0, 1, 2, 5, 9, 14, 15, 16, 17, 22, 99, 100, 300} {
			for _, lead := range []string{"12345678901234567", "91817263549876431", "10000000000000003", "55555555555555555", "99999999999999999"} {
				digits := lead[:k]
				x := read(t, digits[:1]+"."+digits[1:]+"e"+strconv.Itoa(e))
				s := impl.FloatText(x)
				short := strings.TrimRight(digits, "0")
				if k <= 15 && s != ruleForm(short, e) {
					t.Errorf("%s with exponent %d is written as %s", digits, e, s)
				}
				mark, _, _ := strings.Cut(s, "e")
				seen[len(strings.Trim(strings.Replace(mark, ".", "", 1), "0"))] = true
			}
		}
	}
	for k := 1; k <= 17; k++ {
		if !seen[k] {
			t.Error("no text has so many digits:", k)
		}
	}
}
