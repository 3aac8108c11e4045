package tests

import (
	"strings"
	"testing"

	"loop.example/g00009/impl"
)

func TestP4Integers(t *testing.T) {
	for src, want := range map[string]string{
		"0": "0", "1": "1", "9": "9", "10": "10", "1_0": "10", "1_000_000": "1000000", "1_2_3": "123", "100": "100", "9876543210987654321098765432109876543210": "9876543210987654321098765432109876543210",
		"0x0": "0", "0xf": "15", "0x_f": "15", "0xff": "255", "0x_f_f": "255", "0x00ff": "255", "0x0_0": "0", "0xabcdef": "11259375", "0x1e5": "485", "0x1_e5": "485", "0xe": "14", "0xb": "11", "0x0b1": "177", "0xffffffffffffffffffffffff": "79228162514264337593543950335",
		"0o0": "0", "0o7": "7", "0o_7": "7", "0o777": "511", "0o7_7": "63", "0o01234567": "342391",
		"0b0": "0", "0b1": "1", "0b_1": "1", "0b101": "5", "0b1_0": "2", "0b0001": "1",
	} {
		wantOne(t, src, impl.TkInt, want)
		wantKinds(t, src+"-"+src, "int("+want+") op(-) int("+want+")")
		wantKinds(t, "("+src+")", "op(() int("+want+") op())")
		wantKinds(t, "-"+src+"'a'", "op(-) int("+want+") str(a)")
	}
	wantKinds(t, "0x1e+5", "int(30) op(+) int(5)")
	wantKinds(t, "0xe-0b1", "int(14) op(-) int(1)")
	wantKinds(t, "1 2\t3", "int(1) int(2) int(3)")
}

func TestP4NoNumbers(t *testing.T) {
	for _, src := range []string{
		"00", "01", "000", "0_", "0_0", "0_1", "09", "00_1", "1_", "1__0", "10__0", "1_0_", "1_a", "1_.5", "1_e5",
		"0x", "0o", "0b", "0x_", "0o_", "0b_", "0x__f", "0o__7", "0b__1", "0xf_", "0xf__f", "0b1__0", "0xg", "0o8", "0b2", "0o78", "0b12", "0xfg", "0xF", "0xfF", "0X1", "0O1", "0B1", "0x ", "0x.", "0b.1", "0o+", "0x'a'", "0b1e5", "0o1e5", "0xf.5", "0b1.", "0o7.e", "0x1p3",
		"1a", "1z", "1A", "1if", "1_if", "1e", "1e+", "1e-", "1e+a", "1ee5", "1e 5", "1e_5", "1e5_", "1e1_0", "1E5", "1e5e5", "1e5.", "1e5.5", "1e+5.", "1e5x", "1e5_0", "1j", "1l", "1r'a'", "1f'a'", "1_'a'",
		"1..", "1..2", "1.2.", "1.2.3", "1.a", "1.e", "1.e+", "1.ex", "1._", "1._5", "1_0.5", "1_0e5", "1.5_0", "1.5a", "1.5e", "1.5e+", "1.5_", ".5.", ".5.5", ".5a", ".5e", ".5e+", ".5_", ".5_5", ".0.", "0.0.0", "0.e", "0..", "1...", "1.__a__", ".5e5.", "1.r''",
		"1e +5", "1e\n", "0x\n", "0x #", "1e00000", "1e12345", "1e+12345", "1.5e-12345", ".5e12345", "1.e00001", "00e12345",
	} {
		wantFault(t, src, impl.FaultNumber, 1)
		wantFault(t, "a +\\\n"+src+" $", impl.FaultNumber, 2)
	}
}

func TestP4Floats(t *testing.T) {
	for src, want := range map[string]string{
		"1.5": "1.5", "1.": "1.0", ".5": "0.5", "0.": "0.0", ".0": "0.0", "0.0": "0.0", "00.": "0.0", "01.5": "1.5", "00.50": "0.5", "007e1": "70.0", "0e0": "0.0", "0e5": "0.0", "00e5": "0.0", "1e5": "100000.0",
		"1e+5": "100000.0", "1e-5": "1e-05", "1e05": "100000.0", "1e0005": "100000.0", "1e+0005": "100000.0", "1.e5": "100000.0", "1.5e5": "150000.0", ".5e5": "50000.0", ".5e-5": "5e-06", "1e16": "1e+16", "1e308": "1e+308", "1e-9999": "0.0", "0e9999": "0.0", "0.0e+9999": "0.0",
		"1.7976931348623157e308": "1.7976931348623157e+308", "5e-324": "5e-324", "2e-324": "0.0", "123456789012345678.": "1.2345678901234568e+17", "0.1": "0.1", "3.14159": "3.14159", "9007199254740993.0": "9007199254740992.0",
	} {
		wantOne(t, src, impl.TkFloat, want)
		wantKinds(t, src+" "+src, "float("+want+") float("+want+")")
		wantKinds(t, src+"-"+src, "float("+want+") op(-) float("+want+")")
		wantKinds(t, src+"/1", "float("+want+") op(/) int(1)")
	}
	wantKinds(t, "a.5", "name(a) float(0.5)")
	wantKinds(t, "..5", "op(.) float(0.5)")
	wantKinds(t, "a[1.:.5]", "name(a) op([) float(1.0) op(:) float(0.5) op(])")
	wantKinds(t, "'a'.5", "str(a) float(0.5)")
	wantKinds(t, "1 .a", "int(1) op(.) name(a)")
	wantKinds(t, "1. .5", "float(1.0) float(0.5)")
	wantKinds(t, ". 5", "op(.) int(5)")
	wantKinds(t, "1.+.5e1", "float(1.0) op(+) float(5.0)")
	wantKinds(t, "1e5-5", "float(100000.0) op(-) int(5)")
}

func TestP4GreatIntegers(t *testing.T) {
	bits := impl.MaxLimbs * 32
	power, _ := impl.BigPow(impl.BigOf(2), int64(bits)-1)
	below, _ := impl.BigSub(power, impl.BigOf(1))
	greatest, _ := impl.BigAdd(power, below)
	text := impl.BigText(greatest, 10)
	ones := strings.Repeat("1", bits)
	for _, src := range []string{text, strings.Join(strings.Split(text, ""), "_"), "0b" + ones, "0b_" + strings.Join(strings.Split(ones, ""), "_"), "0x" + strings.Repeat("f", bits/4), "0x_0" + strings.Repeat("_f", bits/4), "0o1" + strings.Repeat("7", bits/3), "0b" + strings.Repeat("0", impl.MaxDigits-bits) + ones} {
		wantOne(t, src, impl.TkInt, text)
	}
	// The text ends with 5: one more is 6 there.
	for _, src := range []string{text[:len(text)-1] + "6", text + "0", "0b1" + strings.Repeat("0", bits), "0x1" + strings.Repeat("0", bits/4), "0o2" + strings.Repeat("_0", bits/3), "0b" + strings.Repeat("0", impl.MaxDigits-bits+1) + ones, strings.Repeat("9", impl.MaxDigits+1), strings.Repeat("9", impl.MaxText)} {
		wantFault(t, src, impl.FaultLarge, 1)
		wantFault(t, "\n"+shorter(src)+" $", impl.FaultLarge, 2)
		wantFault(t, shorter(src)+"x", impl.FaultNumber, 1)
	}
	// As many digits as are read, and one more, of which all are 0.
	for _, base := range []string{"0x", "0o", "0b", "0x_"} {
		wantOne(t, base+strings.Repeat("0", impl.MaxDigits), impl.TkInt, "0")
		wantOne(t, base+"0"+strings.Repeat("_0", impl.MaxDigits-1), impl.TkInt, "0")
		wantFault(t, base+strings.Repeat("0", impl.MaxDigits+1), impl.FaultLarge, 1)
	}
}

// shorter leaves room for a few bytes more.
func shorter(src string) string { return src[:min(len(src), impl.MaxText-9)] }

func TestP4GreatFloats(t *testing.T) {
	for _, src := range []string{"1e309", "1e9999", "1.8e308", "1.7976931348623159e308", ".1e310", "1" + strings.Repeat("0", 309) + ".", "9." + strings.Repeat("9", 300) + "e308"} {
		wantFault(t, src, impl.FaultLarge, 1)
		wantFault(t, "a\n"+src+" 01", impl.FaultLarge, 2)
		wantFault(t, src+"a", impl.FaultNumber, 1)
		wantFault(t, src+"_", impl.FaultNumber, 1)
		wantFault(t, src+"..", impl.FaultNumber, 1)
	}
}

func TestP4LongFloats(t *testing.T) {
	zeros := func(n int) string { return strings.Repeat("0", n) }
	for _, most := range []string{zeros(impl.MaxFloatText-2) + ".5", "." + zeros(impl.MaxFloatText-1), zeros(impl.MaxFloatText-1) + ".", "1" + zeros(impl.MaxFloatText-7) + "e-0399", "0." + zeros(impl.MaxFloatText-4) + "e5", zeros(impl.MaxFloatText-4) + ".e+5"} {
		if len(most) != impl.MaxFloatText {
			t.Error("not as long as can be:", shown(most))
		}
		x, ok := impl.FloatRead(most)
		if !ok {
			t.Error("not read:", shown(most))
		}
		wantOne(t, most, impl.TkFloat, impl.FloatText(x))
		wantKinds(t, most+"-1", "float("+impl.FloatText(x)+") op(-) int(1)")
		wantFault(t, "0"+most, impl.FaultNumber, 1)
		wantFault(t, "1"+most, impl.FaultNumber, 1)
	}
	// Integers may be longer.
	wantOne(t, "1"+zeros(impl.MaxFloatText), impl.TkInt, "1"+zeros(impl.MaxFloatText))
	wantFault(t, "1"+zeros(impl.MaxFloatText)+".", impl.FaultNumber, 1)
	wantFault(t, "1"+zeros(impl.MaxFloatText)+"e5", impl.FaultNumber, 1)
}

func TestP4NumbersOfMixedTexts(t *testing.T) {
	for _, src := range someTexts(43, 40000, 12, "0011_..e+-xob7af9") {
		wantRule(t, src)
	}
}
