package tests

import (
	"math"
	"math/big"
	"slices"
	"strconv"
	"strings"
	"testing"

	"loop.example/g00009/impl"
)

func TestFloatConstants(t *testing.T) {
	got := []uint64{impl.MaxFloatText, impl.FloatNan, impl.FAdd, impl.FSub, impl.FMul, impl.FDiv, impl.FFloor, impl.FMod}
	want := []uint64{400, 0x7ff8000000000000, 1, 2, 3, 4, 5, 6}
	if !slices.Equal(got, want) {
		t.Error(got, "wanted", want)
	}
}

func TestP2ReadByHand(t *testing.T) {
	for s, want := range map[string]uint64{
		"0": 0, "0.0": 0, ".0": 0, "0.": 0, "000": 0, "0e0": 0, "0e9999": 0, "0e-9999": 0, "1e-9999": 0,
		"1": 0x3ff0000000000000, "1.": 0x3ff0000000000000, "01": 0x3ff0000000000000, "1e0": 0x3ff0000000000000, "10e-1": 0x3ff0000000000000, ".1e1": 0x3ff0000000000000, "1.e0": 0x3ff0000000000000, "1e+0000": 0x3ff0000000000000, "0.001e3": 0x3ff0000000000000,
		"0.5": 0x3fe0000000000000, ".5": 0x3fe0000000000000, "5e-1": 0x3fe0000000000000, "5e-0001": 0x3fe0000000000000,
		"0.1": 0x3fb999999999999a, "100": 0x4059000000000000, "1e2": 0x4059000000000000, "1e+2": 0x4059000000000000, "1e02": 0x4059000000000000, "1e002": 0x4059000000000000, "1e0002": 0x4059000000000000, "1e+0002": 0x4059000000000000,
		"inf": plusInf, "1e309": plusInf, "1e9999": plusInf, "1.8e308": plusInf,
		"1.7976931348623157e308": mostFloat, "17976931348623157e+0292": mostFloat, "1.7976931348623158e308": mostFloat, "1.7976931348623159e308": plusInf, "1.7976931348623155e308": mostFloat - 1,
		"5e-324": 1, "3e-324": 1, "2e-324": 0, "7e-324": 1, "8e-324": 2, "2.2250738585072014e-308": leastNormal, "2.225073858507201e-308": leastNormal - 1, "2.2250738585072011e-308": leastNormal - 1,
		"9007199254740992": 0x4340000000000000, "9007199254740993": 0x4340000000000000, "9007199254740994": 0x4340000000000001, "9007199254740995": 0x4340000000000002, "9007199254740993.0000001": 0x4340000000000001,
	} {
		readAs(t, s, want)
	}
	if x := read(t, "nan"); x != impl.FloatNan {
		t.Errorf("nan is read as %#x", x)
	}
}

func TestP2ReadRefused(t *testing.T) {
	for _, s := range []string{
		"", "-", ".", "-.", "+", "+1", "--1", "-+1", "+inf", "+nan", "-nan", "--inf", "e", "e5", ".e5", "-e5", "-.e1", "1e", "1e+", "1e-", "1e+-1", "1e--1", "1e++1", "1e-+1", "1e 1", "1e1.", "1e.1", "1e1.0", "1e1e1", "1ee1", "1e12345", "1e00001", "1e+00001", "1e-00001", "1e-12345",
		"1.2.3", "1..2", "..1", "1..", ".1.", "1_0", "1_000.0", "1,0", "1E5", "1f", "1d", "1p3", "0x10", "0x1p3", "0b1", "0o7", "1e0x1",
		"Inf", "INF", "iNf", "infinity", "Infinity", "in", "inff", "infe1", "inf.0", "1inf", "inf1", "NaN", "NAN", "Nan", "na", "nan1", "nan(1)", "1nan", "nane1", "-Inf", "-NaN",
		" 1", "1 ", " ", "- 1", "-\t1", "1\n", "\n", "1\x00", "\x00", "1\x001", "\xff", "1\xff", "é", "１", "1٣", "−1", "∞", "½", "1.5j", "0 .5", "1. 5", "(1)", "1/2", "1:", "/1", "e+", "+e1", "1+1", "1-1", "1e5+", "1-", "1.-", ".-1",
	} {
		unread(t, s)
	}
}

// Each byte that is put in or written over makes another text or none.
func TestP2ReadEachByte(t *testing.T) {
	for c := range 256 {
		b := string([]byte{byte(c)})
		digit, point := c >= '0' && c <= '9', c == '.'
		for s, want := range map[string]bool{
			b: digit, b + "1": digit || point || c == '-', "1" + b: digit || point, "1" + b + "5": digit || point || c == 'e', "1.5e" + b: digit, "1.5e" + b + "1": digit || c == '-' || c == '+',
			"1.5e+" + b: digit, "-" + b: digit, "-" + b + "2": digit || point, "." + b: digit, "1.5" + b: digit, "in" + b: c == 'f', "na" + b: c == 'n', b + "nf": c == 'i', "n" + b + "n": c == 'a', "1e12" + b: digit, "1e1234" + b: false,
		} {
			if x, ok := impl.FloatRead(s); ok != want || !ok && x != 0 {
				t.Errorf("%q is read as %#x, %v", s, x, ok)
			}
		}
	}
}

// Texts of MaxFloatText bytes are read, those of one more are not.
func TestP2ReadLengths(t *testing.T) {
	threes := strings.Repeat("3", 200) + "." + strings.Repeat("3", 199)
	for s, want := range map[string]uint64{
		zeros(399) + "7":                   math.Float64bits(7),
		zeros(398) + "7.":                  math.Float64bits(7),
		"." + zeros(393) + "1e+394":        math.Float64bits(1),
		"1" + zeros(394) + "e-394":         math.Float64bits(1),
		"1" + zeros(308) + "." + zeros(90): math.Float64bits(1e308),
		"-" + zeros(399):                   minusZero,
		"-" + zeros(398) + "7":             math.Float64bits(-7),
		strings.Repeat("9", 400):           plusInf,
		threes:                             nearest(ratOf(threes)),
	} {
		if x, ok := impl.FloatRead(s); !ok || x != want || len(s) != impl.MaxFloatText {
			t.Errorf("%s, %d bytes, is read as %#x, %v; wanted %#x", s, len(s), x, ok, want)
		}
		rest, minus := strings.CutPrefix(s, "-")
		if minus {
			unread(t, "-0"+rest)
		} else {
			unread(t, "0"+s)
		}
	}
	unread(t, strings.Repeat("1", 100000))
	unread(t, zeros(100000)+"inf")
}

func zeros(n int) string { return strings.Repeat("0", n) }

// ratOf reads a decimal number exactly.
func ratOf(s string) *big.Rat {
	r, ok := new(big.Rat).SetString(s)
	if !ok {
		panic("no number: " + s)
	}
	return r
}

func TestP2ReadNearest(t *testing.T) {
	texts := []string{"123456789012345678901234567890", "1.0000000000000001110223024625156540423631668090820312", "1.00000000000000011102230246251565404236316680908203125", "1.00000000000000011102230246251565404236316680908203126", "1.00000000000000033306690738754696212708950042724609375", "2.4703282292062327208e-324", "2.4703282292062328e-324", "4503599627370496.5", "4503599627370497.5", "4503599627370497.49999", "0.000000000000000000000000000000000000000000000000000000000000000000000000000000000001e84", "8.41e21", "9.5e-3", "6.0221e23", "1.1e-315", "179769313486231570000000000000000000000e270"}
	for i, x := range someFloats(21, 400) {
		r := exact(x &^ floatSign)
		texts = append(texts, r.FloatString(i%60), r.FloatString(i%60)+"1", strconv.Itoa(i*7919)+"."+strconv.Itoa(i)+"e"+strconv.Itoa(i%700-350))
	}
	for _, s := range texts {
		if len(s) > impl.MaxFloatText {
			continue
		}
		want := uint64(0)
		if r := ratOf(s); r.Sign() != 0 {
			want = nearest(r)
		}
		readAs(t, s, want)
	}
}

// A tie goes to the float whose last bit is 0; one digit far behind decides it.
func TestP2ReadTies(t *testing.T) {
	list := []uint64{1, 0x3ff0000000000000, mostFloat, mostFloat - 1, 0x4340000000000000, 0x4340000000000001, 0x3fefffffffffffff, 0x3cafffffffffffff, 0x7fe0000000000000}
	for _, x := range someFloats(22, 600) {
		list = append(list, x&^floatSign)
	}
	ties := 0
	for _, x := range list {
		digits, e := decimals(half(x))
		tail := "e" + strconv.Itoa(e)
		if len(digits)+len(tail) > impl.MaxFloatText-8 {
			continue
		}
		ties++
		readAs(t, digits+tail, x+x&1)
		readAs(t, digits+".0000001"+tail, x+1)
		less, _ := new(big.Int).SetString(digits, 10)
		less.Sub(less, big.NewInt(1))
		readAs(t, less.String()+".9999999"+tail, x)
		readAs(t, less.String()+tail, x)
	}
	if ties < 100 {
		t.Error("too few ties of at most MaxFloatText bytes:", ties)
	}
}

// The longest texts: a run of digits that reaches to the last byte.
func TestP2ReadLastDigitDecides(t *testing.T) {
	one := half(0x3ff0000000000000).FloatString(53)
	room := impl.MaxFloatText - len(one) - 1
	readAs(t, one+strings.Repeat("0", room), 0x3ff0000000000000)
	readAs(t, one+strings.Repeat("0", room-1)+"1", 0x3ff0000000000001)
	if x := read(t, one+strings.Repeat("0", room)+"1"); x != 0x3ff0000000000001 {
		t.Errorf("the last of MaxFloatText digits does not count: %#x", x)
	}
	most := half(mostFloat).FloatString(0)
	readAs(t, most, plusInf)
	readAs(t, most+".", plusInf)
	readAs(t, most+"."+zeros(80), plusInf)
	less := new(big.Int).Sub(half(mostFloat).Num(), big.NewInt(1)).String()
	readAs(t, less, mostFloat)
	readAs(t, less+"."+strings.Repeat("9", 80), mostFloat)
	digits, e := decimals(half(0))
	least := digits[:380] + "e" + strconv.Itoa(e+len(digits)-380)
	readAs(t, least, 0)
	more, _ := new(big.Int).SetString(digits[:380], 10)
	more.Add(more, big.NewInt(1))
	readAs(t, more.String()+"e"+strconv.Itoa(e+len(digits)-380), 1)
}

func TestP2ReadExponents(t *testing.T) {
	for e := -9999; e <= 9999; e++ {
		want := uint64(0)
		switch {
		case e > 308:
			want = plusInf
		case e > -400:
			want = nearest(ratOf("1e" + strconv.Itoa(e)))
		}
		text := strconv.Itoa(max(e, -e))
		sign := "-"
		if e >= 0 {
			sign = "+"
			readAs(t, "1e"+text, want)
		}
		readAs(t, "1e"+sign+text, want)
		readAs(t, "1e"+sign+zeros(4-len(text))+text, want)
		unread(t, "1e"+sign+zeros(5-len(text))+text)
		if e >= 0 {
			unread(t, "1e"+zeros(5-len(text))+text)
		}
	}
}
