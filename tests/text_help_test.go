package tests

import (
	"math/rand"
	"slices"
	"strings"
	"testing"

	"loop.example/g00009/impl"
)

// Code points of 4 bytes, of 3, of 2: the greatest of all among them.
const (
	fourBytes  = "\U0001f600"
	threeBytes = "日"
	twoBytes   = "é"
	lastPoint  = "\U0010ffff"
	badMark    = "\ufffd"
)

// decoded reads bytes by the document's words: shortest forms, no surrogates,
// nothing beyond U+10FFFF.
func decoded(s string) ([]rune, bool) {
	var out []rune
	for len(s) > 0 {
		first := s[0]
		n, value, least := 1, rune(first), rune(0)
		switch {
		case first >= 0xf8 || first >= 0x80 && first < 0xc0:
			return nil, false
		case first >= 0xf0:
			n, value, least = 4, rune(first&7), 0x10000
		case first >= 0xe0:
			n, value, least = 3, rune(first&15), 0x800
		case first >= 0xc0:
			n, value, least = 2, rune(first&31), 0x80
		}
		if len(s) < n {
			return nil, false
		}
		for _, c := range []byte(s[1:n]) {
			if c&0xc0 != 0x80 {
				return nil, false
			}
			value = value<<6 | rune(c&63)
		}
		if value < least || value > 0x10ffff || value >= 0xd800 && value < 0xe000 {
			return nil, false
		}
		out, s = append(out, value), s[n:]
	}
	return out, true
}

// badBytes are no text wherever they stand.
func badBytes() []string {
	return []string{
		"\x80", "\xbf", "\x80\x80", "\xe9", // alone
		"\xc0\x80", "\xc0\xaf", "\xc1\xbf", "\xe0\x80\x80", "\xe0\x9f\xbf", "\xf0\x80\x80\x80", "\xf0\x8f\xbf\xbf", // not the shortest
		"\xed\xa0\x80", "\xed\xaf\xbf", "\xed\xb0\x80", "\xed\xbf\xbf", "\xed\xa0\xbd\xed\xb8\x80", // surrogates
		"\xf4\x90\x80\x80", "\xf4\xbf\xbf\xbf", "\xf5\x80\x80\x80", "\xf7\xbf\xbf\xbf", "\xf8\x88\x80\x80\x80", "\xfe", "\xff", // beyond
		"\xc3", "\xe6", "\xe6\x97", "\xf0", "\xf0\x9f", "\xf0\x9f\x98", "\xf4\x8f\xbf", // cut short
	}
}

// noTexts are these alone and among others, and what is too long by a byte.
func noTexts() []string {
	var out []string
	for _, bad := range badBytes() {
		out = append(out, bad, "a"+bad, bad+"a", twoBytes+bad+fourBytes)
	}
	return append(out, strings.Repeat("a", impl.MaxText+1), strings.Repeat("a", impl.MaxText-1)+twoBytes, strings.Repeat(fourBytes, impl.MaxText/4)+" ", strings.Repeat(" ", 3*impl.MaxText))
}

// edgeTexts are texts with code points of each length, and as long as can be.
func edgeTexts() []string {
	return []string{
		"", "a", twoBytes, threeBytes, fourBytes, lastPoint, badMark, "\x00", "\x7f", "\u0080", "\u07ff", "\u0800", "\uffff", "\U00010000", "\ud7ff", "\ue000",
		"aé日😀", "😀日éa", badMark + "a" + badMark, "a b\tc\nd\re", "it's", `a"b`, `'"\`,
		strings.Repeat("a", impl.MaxText), strings.Repeat(twoBytes, impl.MaxText/2), strings.Repeat(fourBytes, impl.MaxText/4), strings.Repeat(threeBytes, impl.MaxText/3) + "b",
	}
}

// someTexts are n texts, always the same ones, of few code points, so that
// they stand in one another often.
func someTexts(seed int64, n int, most int, alphabet string) []string {
	r := rand.New(rand.NewSource(seed))
	points := []rune(alphabet)
	out := make([]string, n)
	for i := range out {
		var text []rune
		for range r.Intn(most + 1) {
			text = append(text, points[r.Intn(len(points))])
		}
		out[i] = string(text)
	}
	return out
}

// allTexts are all of at most that many code points of the alphabet.
func allTexts(alphabet string, most int) []string {
	out := []string{""}
	last := out
	for range most {
		var next []string
		for _, s := range last {
			for _, r := range alphabet {
				next = append(next, s+string(r))
			}
		}
		out, last = append(out, next...), next
	}
	return out
}

// standsAt tells whether the code points of t stand in s at a place.
func standsAt(s []rune, t []rune, place int) bool {
	return place >= 0 && place+len(t) <= len(s) && slices.Equal(s[place:place+len(t)], t)
}

// wantText wants a text and ROk.
func wantText(t *testing.T, got string, code int64, want string, what ...any) {
	t.Helper()
	if got != want || code != impl.ROk {
		t.Errorf("%q: %s, code %d; wanted %s", what, shown(got), code, shown(want))
	}
}

// wantNoText wants an empty text and that code.
func wantNoText(t *testing.T, got string, code int64, want int64, what ...any) {
	t.Helper()
	if got != "" || code != want {
		t.Errorf("%.60q: %s, code %d; wanted no text and code %d", what, shown(got), code, want)
	}
}

// shown is short enough to be read.
func shown(s string) string {
	if len(s) > 60 {
		return strings.Join([]string{s[:30], s[len(s)-30:]}, " .. ")
	}
	return s
}
