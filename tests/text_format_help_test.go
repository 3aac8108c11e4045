package tests

import (
	"math/big"
	"strconv"
	"strings"
	"testing"

	"loop.example/g00009/impl"
)

// specOf is a spec by its parts; the precision is without its point.
type specOf struct {
	align, sign, zero, width, comma, precision, kind string
}

func (p specOf) text() string {
	point := ""
	if p.precision != "" {
		point = "."
	}
	return p.align + p.sign + p.zero + p.width + p.comma + point + p.precision + p.kind
}

// everySpec calls f with all ways to put the parts together.
func everySpec(f func(p specOf)) {
	for _, align := range []string{"", "<", ">", "^", "=", "x<", "x>", "x^", "x=", "é^", "😀>", "日=", "<<", "==", "+=", "-<", " >", "0<", "0=", "^^", ">=", ".<", ",>", "5^", badMark + "^"} {
		for _, sign := range []string{"", "+", " ", "-"} {
			for _, zero := range []string{"", "0"} {
				for _, width := range []string{"", "1", "6", "13"} {
					for _, comma := range []string{"", ","} {
						for _, precision := range []string{"", "0", "3"} {
							for _, kind := range []string{"", "s", "d", "b", "o", "x", "f", "e"} {
								f(specOf{align, sign, zero, width, comma, precision, kind})
							}
						}
					}
				}
			}
		}
	}
}

// laid puts the fill where it belongs, one by one.
func (p specOf) laid(sign string, body string, side string) string {
	fill := " "
	switch {
	case p.align != "":
		side = p.align[len(p.align)-1:]
		if front := p.align[:len(p.align)-1]; front != "" {
			fill = front
		}
	case p.zero != "":
		fill, side = "0", "="
	}
	front, between, behind := 0, 0, 0
	width, _ := strconv.Atoi(p.width)
	points, _ := decoded(sign + body)
	for n := len(points); n < width; n++ {
		switch {
		case side == "=":
			between++
		case side == ">" || side == "^" && front < behind:
			front++
		default:
			behind++
		}
	}
	return strings.Repeat(fill, front) + sign + strings.Repeat(fill, between) + body + strings.Repeat(fill, behind)
}

func (p specOf) number(neg bool, body string) string {
	sign := ""
	switch {
	case neg:
		sign = "-"
	case p.sign != "-":
		sign = p.sign
	}
	if p.comma != "" {
		body = commaRule(body)
	}
	return p.laid(sign, body, ">")
}

func commaRule(body string) string {
	behind := strings.TrimLeft(body, "0123456789")
	digits := strings.TrimSuffix(body, behind)
	out := ""
	for i, c := range digits {
		if i > 0 && (len(digits)-i)%3 == 0 {
			out += ","
		}
		out += string(c)
	}
	return out + behind
}

// oneOf tells whether a type is among those; none is always.
func oneOf(kind string, kinds string) bool { return kind == "" || strings.Contains(kinds, kind) }

// The rules answer what a value is written as, or false when it is refused.

func (p specOf) ofText(s string) (string, bool) {
	if p.sign != "" || p.zero != "" || p.comma != "" || strings.HasSuffix(p.align, "=") || !oneOf(p.kind, "s") {
		return "", false
	}
	if points, _ := decoded(s); p.precision != "" {
		n, _ := strconv.Atoi(p.precision)
		s = string(points[:min(n, len(points))])
	}
	return p.laid("", s, "<"), true
}

func (p specOf) ofInt(x *big.Int) (string, bool) {
	if p.precision != "" || !oneOf(p.kind, "dbox") || p.comma != "" && !oneOf(p.kind, "d") {
		return "", false
	}
	base := map[string]int{"": 10, "d": 10, "b": 2, "o": 8, "x": 16}[p.kind]
	return p.number(x.Sign() < 0, new(big.Int).Abs(x).Text(base)), true
}

func (p specOf) ofFloat(x uint64) (string, bool) {
	if !oneOf(p.kind, "f") || p.kind == "" && p.precision != "" {
		return "", false
	}
	neg, size := x&floatSign != 0 && !isNan(x), x&^floatSign
	if p.kind == "" || isNan(x) || isInf(x) {
		return p.number(neg, impl.FloatText(size)), true
	}
	places := 6
	if p.precision != "" {
		places, _ = strconv.Atoi(p.precision)
	}
	return p.number(neg, fixedRule(size, places)), true
}

// fixedRule rounds the exact value of a float that is not below 0.
func fixedRule(x uint64, places int) string {
	scale := new(big.Int).Exp(big.NewInt(10), big.NewInt(int64(places)), nil)
	r := exact(x)
	digits, rest := new(big.Int).QuoRem(scale.Mul(scale, r.Num()), r.Denom(), new(big.Int))
	side := rest.Lsh(rest, 1).Cmp(r.Denom())
	if side > 0 || side == 0 && digits.Bit(0) == 1 {
		digits.Add(digits, big.NewInt(1))
	}
	text := digits.String()
	if places == 0 {
		return text
	}
	text = zeros(max(places+1-len(text), 0)) + text
	return text[:len(text)-places] + "." + text[len(text)-places:]
}

// wantFormat wants a text, or RLarge when it is too long, or RArgs when ok is false.
func wantFormat(t *testing.T, got string, code int64, want string, ok bool, what ...any) {
	t.Helper()
	switch {
	case !ok:
		wantNoText(t, got, code, impl.RArgs, what...)
	case len(want) > impl.MaxText:
		wantNoText(t, got, code, impl.RLarge, what...)
	default:
		wantText(t, got, code, want, what...)
	}
}

func checkTextFormat(t *testing.T, p specOf, s string) {
	t.Helper()
	want, ok := p.ofText(s)
	got, code := impl.FormatText(p.text(), s)
	wantFormat(t, got, code, want, ok, p.text(), shown(s))
}

func checkBigFormat(t *testing.T, p specOf, x *big.Int) {
	t.Helper()
	want, ok := p.ofInt(x)
	got, code := impl.FormatBig(p.text(), fromInt(x))
	wantFormat(t, got, code, want, ok, p.text(), x.String())
}

func checkFloatFormat(t *testing.T, p specOf, x uint64) {
	t.Helper()
	want, ok := p.ofFloat(x)
	got, code := impl.FormatFloat(p.text(), x)
	wantFormat(t, got, code, want, ok, p.text(), impl.FloatText(x))
}
