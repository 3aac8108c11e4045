package tests

import (
	"math"
	"math/big"
	"strconv"
	"strings"
	"testing"

	"loop.example/g00009/impl"
)

func TestP3FormatOfEverySpec(t *testing.T) {
	texts := []string{"", "abc", "aé日😀b"}
	ints := []*big.Int{big.NewInt(0), big.NewInt(-7), big.NewInt(123456), big.NewInt(-1234567)}
	floats := []uint64{0, minusZero, bitsOf(-2.5), bitsOf(1234567.8915), bitsOf(1.25e-7), bitsOf(-1.5e20), minusInf, impl.FloatNan | floatSign}
	everySpec(func(p specOf) {
		for _, s := range texts {
			checkTextFormat(t, p, s)
		}
		for _, x := range ints {
			checkBigFormat(t, p, x)
		}
		for _, x := range floats {
			checkFloatFormat(t, p, x)
		}
	})
}

func TestP3FormatTextByHand(t *testing.T) {
	for _, c := range [][3]string{
		{"", "abc", "abc"}, {"s", "abc", "abc"}, {"5", "abc", "abc  "}, {"<5", "abc", "abc  "}, {">5", "abc", "  abc"}, {"^5", "abc", " abc "}, {"^6", "abc", " abc  "}, {"^4", "abc", "abc "}, {"*^7s", "abc", "**abc**"}, {"3", "abc", "abc"}, {"2", "abc", "abc"}, {"1", "", " "},
		{".2", "abc", "ab"}, {".0", "abc", ""}, {".3s", "abc", "abc"}, {".4", "abc", "abc"}, {".999", "abc", "abc"}, {".000", "abc", ""}, {".02", "abc", "ab"}, {"5.2", "abc", "ab   "}, {"日>6.2s", "aé日", "日日日日aé"}, {".2", "😀日a", "😀日"},
		{"é<3", "日", "日éé"}, {"<<5", "abc", "abc<<"}, {"><5", "abc", "abc>>"}, {"^>5", "abc", "^^abc"}, {"=^5", "abc", "=abc="}, {"+<5", "abc", "abc++"}, {"-<5", "abc", "abc--"}, {" >5", "abc", "  abc"}, {"0>5", "abc", "00abc"}, {"0<5", "abc", "abc00"}, {",>5", "abc", ",,abc"}, {".>5", "abc", "..abc"}, {"9>5", "abc", "99abc"}, {"s>5s", "abc", "ssabc"}, {"\n<5", "abc", "abc\n\n"}, {"\x00<4", "abc", "abc\x00"}, {badMark + ">4", "abc", badMark + "abc"}, {"<", "abc", "abc"}, {"x^", "abc", "abc"},
	} {
		got, code := impl.FormatText(c[0], c[1])
		wantText(t, got, code, c[2], c[0], c[1])
	}
}

func TestP3FormatBigByHand(t *testing.T) {
	for _, c := range []struct {
		spec string
		n    int64
		want string
	}{
		{"", 0, "0"}, {"", -5, "-5"}, {"d", 42, "42"}, {"b", 5, "101"}, {"b", -5, "-101"}, {"o", 64, "100"}, {"x", 255, "ff"}, {"x", -255, "-ff"}, {"x", 0, "0"}, {"+", 5, "+5"}, {"+", -5, "-5"}, {"+", 0, "+0"}, {" ", 5, " 5"}, {" ", -5, "-5"}, {"-", 5, "5"}, {"-", -5, "-5"},
		{"4", 42, "  42"}, {"<4", 42, "42  "}, {"^5", 42, " 42  "}, {"=5", -42, "-  42"}, {"=5", 42, "   42"}, {"+=5", 42, "+++42"}, {"=+5", 42, "+  42"}, {"04", -5, "-005"}, {"04", 5, "0005"}, {"+04", 5, "+005"}, {" 04", 5, " 005"}, {"04x", 255, "00ff"}, {"0", 5, "5"}, {"08b", 5, "00000101"},
		// With an align the fill stays a blank, and the align stays.
		{"<04", -5, "-5  "}, {">04", -5, "  -5"}, {"^05", -5, " -5  "}, {"=04", -5, "-  5"}, {"x=04", -5, "-xx5"}, {"x<04", 5, "5xxx"}, {"0=4", -5, "-005"}, {"0>4", -5, "00-5"}, {"0<4", -5, "-500"},
		{",", 1, "1"}, {",", 12, "12"}, {",", 123, "123"}, {",", 1234, "1,234"}, {",", 12345, "12,345"}, {",", 123456, "123,456"}, {",d", 1234567, "1,234,567"}, {",", -123456, "-123,456"}, {"+,", 999999999, "+999,999,999"}, {"09,", 1234, "00001,234"}, {"10,", 1234567, " 1,234,567"}, {"6,", 1234, " 1,234"}, {",", math.MinInt64, "-9,223,372,036,854,775,808"},
	} {
		got, code := impl.FormatBig(c.spec, impl.BigOf(c.n))
		wantText(t, got, code, c.want, c.spec, c.n)
	}
}

func TestP3FormatBigOfManyNumbers(t *testing.T) {
	specs := []specOf{{}, {kind: "d"}, {kind: "b"}, {kind: "o"}, {kind: "x"}, {comma: ","}, {comma: ",", kind: "d", sign: "+"}, {width: "40", kind: "x", zero: "0"}, {align: "é=", width: "60", sign: " ", comma: ","}, {width: "5000", align: "*^", kind: "b"}}
	for _, x := range append(edges(), someInts(91, 150, impl.MaxLimbs)...) {
		for _, p := range specs {
			checkBigFormat(t, p, x)
		}
	}
}

func TestP3FormatFloatByHand(t *testing.T) {
	for _, c := range []struct {
		spec string
		x    float64
		want string
	}{
		{"", 0, "0.0"}, {"", math.Copysign(0, -1), "-0.0"}, {"", 1.5, "1.5"}, {"", -1e22, "-1e+22"}, {"f", 0, "0.000000"}, {"f", math.Copysign(0, -1), "-0.000000"}, {".0f", math.Copysign(0, -1), "-0"}, {"f", 1.5, "1.500000"}, {".2f", 3.14159, "3.14"}, {".0f", 2.5, "2"}, {".0f", 3.5, "4"}, {".0f", 0.5, "0"}, {".0f", 1.5, "2"}, {".0f", -0.5, "-0"}, {".0f", -0.4, "-0"}, {".0f", -2.5, "-2"}, {".1f", 0.25, "0.2"}, {".1f", 0.75, "0.8"}, {".2f", 0.125, "0.12"}, {".2f", 0.375, "0.38"}, {".2f", 2.675, "2.67"}, {".1f", 0.05, "0.1"}, {".1f", 0.15, "0.1"}, {".3f", 1e-10, "0.000"}, {".3f", -1e-10, "-0.000"},
		{".0f", 9.5, "10"}, {".0f", 99.5, "100"}, {".2f", 999.995, "1000.00"}, {".1f", 9.96, "10.0"}, {",.1f", 999.96, "1,000.0"}, {".00f", 1.5, "2"}, {".02f", 1.5, "1.50"}, {"f", 1e16, "10000000000000000.000000"}, {".0f", 1e22, "10000000000000000000000"}, {".0f", 1e23, "99999999999999991611392"},
		{",", 1234567.5, "1,234,567.5"}, {",", 123.5, "123.5"}, {",", 1234.5678, "1,234.5678"}, {",", 1e16, "1e+16"}, {",", 1.2345e100, "1.2345e+100"}, {",", 1e15, "1,000,000,000,000,000.0"}, {",.2f", -1234567.891, "-1,234,567.89"}, {",.0f", 1e15, "1,000,000,000,000,000"}, {",.6f", 0.000123, "0.000123"}, {",", 0.0001234, "0.0001234"},
		{"+", 1.5, "+1.5"}, {"+", -1.5, "-1.5"}, {" ", 1.5, " 1.5"}, {"-", 1.5, "1.5"}, {"+.1f", 0, "+0.0"}, {"+.1f", math.Copysign(0, -1), "-0.0"}, {"8", 1.5, "     1.5"}, {"<8", 1.5, "1.5     "}, {"08", -1.5, "-00001.5"}, {"08.2f", -1.5, "-0001.50"}, {"^9.1f", -1.5, "  -1.5   "}, {"*=9", -1.5, "-*****1.5"}, {"<08", -1.5, "-1.5    "}, {"012,.1f", 12345.67, "000012,345.7"},
		{"", math.Inf(1), "inf"}, {"", math.Inf(-1), "-inf"}, {"f", math.Inf(1), "inf"}, {".3f", math.Inf(-1), "-inf"}, {".0f", math.NaN(), "nan"}, {"+f", math.Inf(1), "+inf"}, {" f", math.NaN(), " nan"}, {"+", math.NaN(), "+nan"}, {",f", math.Inf(-1), "-inf"}, {",", math.NaN(), "nan"}, {"08f", math.Inf(-1), "-0000inf"}, {"08", math.NaN(), "00000nan"}, {"x^+9.2f", math.Inf(1), "xx+infxxx"}, {"6", math.Inf(-1), "  -inf"},
	} {
		got, code := impl.FormatFloat(c.spec, bitsOf(c.x))
		wantText(t, got, code, c.want, c.spec, c.x)
	}
	for _, x := range nans() {
		for spec, want := range map[string]string{"": "nan", "f": "nan", "+": "+nan", "05.1f": "00nan", "x<5": "nanxx"} {
			got, code := impl.FormatFloat(spec, x)
			wantText(t, got, code, want, spec, x)
		}
	}
}

func TestP3FormatFloatExactly(t *testing.T) {
	specs := []specOf{{kind: "f"}, {kind: "f", precision: "0"}, {kind: "f", precision: "1"}, {kind: "f", precision: "17"}, {kind: "f", precision: "30", comma: ","}, {kind: "f", precision: "999"}, {comma: ",", sign: "+"}, {zero: "0", width: "340", kind: "f", precision: "3"}}
	for _, x := range append(floatEdges(), someFloats(92, 1500)...) {
		for _, p := range specs {
			checkFloatFormat(t, p, x)
		}
	}
}

// Ties at each number of places, and what is next to them: k and a half times
// 2 to the -n has a 5 behind the n places, and nothing behind it.
func TestP3FormatFloatTies(t *testing.T) {
	for n := range 25 {
		p := specOf{kind: "f", precision: strconv.Itoa(n)}
		for k := range 40 {
			x := bitsOf(math.Ldexp(float64(k)+0.5, -n))
			for _, y := range []uint64{x - 1, x, x + 1, x | floatSign, (x + 1) | floatSign} {
				checkFloatFormat(t, p, y)
			}
		}
	}
}

func TestP3FormatOfTheGreatestAndLeastFloat(t *testing.T) {
	got, code := impl.FormatFloat(".999f", mostFloat)
	most := new(big.Int).Sub(power2(1024), power2(971))
	wantText(t, got, code, most.String()+"."+zeros(999), "the greatest float")
	got, code = impl.FormatFloat(".999f", 1|floatSign)
	digits, e := decimals(exact(1))
	least := zeros(-e-len(digits)) + digits
	if least[998:1000] != "36" {
		t.Fatal("the least float's digits:", least[990:1010])
	}
	wantText(t, got, code, "-0."+least[:998]+"4", "the least float")
}

// badSpecs are no spec for anything.
func badSpecs() []string {
	return []string{
		"00", "005", "000", "0010", "12345", "10000", "99999", "012345", ".", "5.", ".f", ".s", ".d", ".-1", ".+1", ". 1", ".1234", ".1000", ".0000", ".1.1", "..1", ",,", "5,,", ",5", ".2,f", ".2,", "+-", "++", "--", "+ ", "  ", "- 5", "<<<", "<<<5", "x<<", "xx<", "5<<", "+x<", "05<", "<=<", "ff", "dd", "ss", "df", "d5", "f.2", "s.2", "x5", "5 d", "5d ", " d ", "d\n", "\n", "\x00", "#", "#x", "#06x", "_", "5_", "%", "z", "e", "E", "g", "G", "n", "c", "F", "X", "D", "S", "B", "O", "i", "u", "r", "a", "é", "日", "ｄ", "5é", "٣", "５", ".٣f", "é5", "é<é", "< <", "+5+", "5+", "1.5<", "0+", "0 5", "-0-", "1e3", "0x5", "{}", ":", "!r", "*", "**", "*5", "(5)", "~", "5~", "\u00a0", "\u00a05",
		"é<\x00", strings.Repeat("5", 4000), strings.Repeat(" ", impl.MaxText), strings.Repeat("日", impl.MaxText/3), "<" + strings.Repeat("1", impl.MaxText-1),
	}
}

func TestP3SpecsThatAreNone(t *testing.T) {
	for _, spec := range append(badSpecs(), noTexts()...) {
		got, code := impl.FormatText(spec, "abc")
		wantNoText(t, got, code, impl.RArgs, "spec of a text", spec)
		got, code = impl.FormatBig(spec, impl.BigOf(5))
		wantNoText(t, got, code, impl.RArgs, "spec of an integer", spec)
		got, code = impl.FormatFloat(spec, bitsOf(1.5))
		wantNoText(t, got, code, impl.RArgs, "spec of a float", spec)
	}
	// A fill that is none, ahead of an align.
	for _, bad := range badBytes() {
		got, code := impl.FormatText(bad+"<5", "abc")
		wantNoText(t, got, code, impl.RArgs, "fill", bad)
	}
}

func TestP3SpecsRefusedByKind(t *testing.T) {
	for _, spec := range []string{"+", "-", " ", "+5", "=", "=5", "x=5", "==5", "0", "05", "<05", "x<05", ",", "5,", ",s", "05s", "+s", "=s", "d", "b", "o", "x", "f", "5d", ".2f", ".2d", "5x"} {
		got, code := impl.FormatText(spec, "abc")
		wantNoText(t, got, code, impl.RArgs, "spec of a text", spec)
	}
	for _, spec := range []string{"s", "f", "5s", ".2", ".0", ".2d", ".2f", "5.1x", ",b", ",o", ",x", "5,x", "+,b", "05,o", ".2s"} {
		got, code := impl.FormatBig(spec, impl.BigOf(5))
		wantNoText(t, got, code, impl.RArgs, "spec of an integer", spec)
	}
	for _, spec := range []string{"s", "d", "b", "o", "x", ".2", ".0", "5.2", ",.2", "5d", ".2s", ".2d", ".2x", "+.1"} {
		got, code := impl.FormatFloat(spec, bitsOf(1.5))
		wantNoText(t, got, code, impl.RArgs, "spec of a float", spec)
	}
}

func TestP3FormatOfWrongValues(t *testing.T) {
	for _, bad := range noTexts() {
		for _, spec := range []string{"", "s", "5", ".0", "*^9.2s", "日>9999", "d", "00"} {
			got, code := impl.FormatText(spec, bad)
			wantNoText(t, got, code, impl.RArgs, spec, bad)
		}
	}
	for _, bad := range wrongs() {
		for _, spec := range []string{"", "d", "b", "o", "x", ",", "+05", "日>9999", "s", "00"} {
			got, code := impl.FormatBig(spec, bad)
			wantNoText(t, got, code, impl.RArgs, spec, bad)
		}
	}
}

func TestP3WidthIsKept(t *testing.T) {
	for _, width := range []string{"1", "2", "3", "9", "10", "99", "999", "1000", "4096", "9999"} {
		for _, align := range []string{"", "<", ">", "^", "x^"} {
			p := specOf{align: align, width: width}
			for _, s := range []string{"", "a", "aé日😀"} {
				checkTextFormat(t, p, s)
			}
		}
		for _, p := range []specOf{{}, {align: "<"}, {align: ">"}, {align: "^"}, {align: "x^"}, {align: "=", sign: "+"}, {zero: "0"}} {
			p.width = width
			for _, n := range []int64{0, -123, 45} {
				checkBigFormat(t, p, big.NewInt(n))
				checkFloatFormat(t, p, bitsOf(float64(n)/4))
			}
		}
	}
}

// Results of MaxText bytes, and of one more.
func TestP3FormatLimits(t *testing.T) {
	most, fours := strings.Repeat("a", impl.MaxText), strings.Repeat(fourBytes, impl.MaxText/4)
	for _, align := range []string{"<", ">", "^", " <", "x^", "é>", "日^", "日<", "😀<", "😀^", "😀>"} {
		for _, width := range []string{"1", "4095", "4096", "4097", "4098", "4099", "4100", "4101", "5461", "5462", "5463", "8192", "8193", "9999"} {
			p := specOf{align: align, width: width}
			for _, s := range []string{"", "a", "é", "abc", "abcd", most, most[1:], fours, fours[4:], fours[8:] + "abc"} {
				checkTextFormat(t, p, s)
			}
			p.precision = "999"
			checkTextFormat(t, p, fours)
		}
	}
	for _, align := range []string{"<", ">", "^", "=", "é=", "日^", "日=", "😀<", "😀=", "😀>"} {
		for _, width := range []string{"4096", "4097", "4098", "4099", "4100", "4101", "5461", "5462", "5463", "5464", "8192", "8193", "8194", "9999"} {
			p := specOf{align: align, width: width, sign: "+"}
			checkBigFormat(t, p, big.NewInt(7))
			checkBigFormat(t, p, big.NewInt(-12))
			checkFloatFormat(t, p, bitsOf(-0.5))
			checkFloatFormat(t, p, minusInf)
		}
	}
}

func TestP3FormatLimitsByHand(t *testing.T) {
	fours := strings.Repeat(fourBytes, impl.MaxText/4)
	for _, c := range [][3]string{{"😀<4096", "", fours}, {"😀>4099", "abcd", fours[4:] + "abcd"}, {"4099", fours[4:], fours[4:] + "    "}, {"日<9999", strings.Repeat("a", impl.MaxText), strings.Repeat("a", impl.MaxText)}} {
		got, code := impl.FormatText(c[0], c[1])
		wantText(t, got, code, c[2], c[0], len(c[1]))
	}
	for _, c := range [][2]string{{"😀<4097", ""}, {"😀>4100", "abcd"}, {"4100", fours[4:]}, {"4097", fours}, {"日<9999", "a"}} {
		got, code := impl.FormatText(c[0], c[1])
		wantNoText(t, got, code, impl.RLarge, c[0], len(c[1]))
	}
	// 4 bytes are a fill less: a sign and two digits have 3.
	got, code := impl.FormatBig("😀=4098", impl.BigOf(-12))
	wantText(t, got, code, "-"+fours[4:]+"12", "an integer of the most bytes")
	got, code = impl.FormatBig("😀=4099", impl.BigOf(-12))
	wantNoText(t, got, code, impl.RLarge, "an integer of too many bytes")
	got, code = impl.FormatFloat("😀>+4099", bitsOf(1.5))
	wantText(t, got, code, fours[4:]+"+1.5", "a float of the most bytes")
	got, code = impl.FormatFloat("😀>+4100", bitsOf(1.5))
	wantNoText(t, got, code, impl.RLarge, "a float of too many bytes")
}
