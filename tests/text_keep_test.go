package tests

import (
	"slices"
	"strconv"
	"strings"
	"testing"
	"unsafe"

	"loop.example/g00009/impl"
)

// textAnswer is all that one call gives: its texts, its places, its numbers.
type textAnswer struct {
	texts  []string
	places []int64
	rest   int64
}

func (a textAnswer) equals(b textAnswer) bool {
	return a.rest == b.rest && slices.Equal(a.texts, b.texts) && slices.Equal(a.places, b.places)
}

func (a textAnswer) copied() textAnswer {
	return textAnswer{texts: slices.Clone(a.texts), places: slices.Clone(a.places), rest: a.rest}
}

// overwrite fills the lists, and the spare room behind them, with other things.
func (a textAnswer) overwrite() {
	for i := range a.texts[:cap(a.texts)] {
		a.texts[:cap(a.texts)][i] = "overwritten"
	}
	for i := range a.places[:cap(a.places)] {
		a.places[:cap(a.places)][i] = -77
	}
}

// textCall is a function of the layer with all but three texts filled in.
type textCall func(s string, t string, u string) textAnswer

func oneText(s string, rest int64) textAnswer { return textAnswer{texts: []string{s}, rest: rest} }

func textCalls() map[string]textCall {
	calls := map[string]textCall{
		"TextLen": func(s, t, u string) textAnswer { return textAnswer{rest: impl.TextLen(s)} },
		"TextOk": func(s, t, u string) textAnswer {
			if impl.TextOk(s) {
				return textAnswer{rest: 1}
			}
			return textAnswer{}
		},
		"TextSplit": func(s, t, u string) textAnswer {
			list, code := impl.TextSplit(s, t)
			return textAnswer{texts: list, rest: code}
		},
		"TextWords":   func(s, t, u string) textAnswer { return textAnswer{texts: impl.TextWords(s)} },
		"TextRepr":    func(s, t, u string) textAnswer { return oneText(impl.TextRepr(s), 0) },
		"TextJoin":    func(s, t, u string) textAnswer { return oneText(impl.TextJoin(s, []string{t, u})) },
		"TextJoin 1":  func(s, t, u string) textAnswer { return oneText(impl.TextJoin(s, []string{t})) },
		"TextReplace": func(s, t, u string) textAnswer { return oneText(impl.TextReplace(s, t, u)) },
		"FormatText":  func(s, t, u string) textAnswer { return oneText(impl.FormatText("", s)) },
		"FormatText of a spec": func(s, t, u string) textAnswer {
			return oneText(impl.FormatText(t, s))
		},
		"FormatFloat": func(s, t, u string) textAnswer { return oneText(impl.FormatFloat(s, bitsOf(1.5))) },
		"FormatBig":   func(s, t, u string) textAnswer { return oneText(impl.FormatBig(s, impl.BigOf(15))) },
	}
	for n := int64(-1); n <= 5; n++ {
		name := " " + strconv.FormatInt(n, 10)
		calls["TextFind"+name] = func(s, t, u string) textAnswer { return textAnswer{rest: impl.TextFind(s, t, n)} }
		calls["TextTimes"+name] = func(s, t, u string) textAnswer { return oneText(impl.TextTimes(s, n)) }
		calls["TextStrip"+name] = func(s, t, u string) textAnswer { return oneText(impl.TextStrip(s, t, n), 0) }
		calls["TextCase"+name] = func(s, t, u string) textAnswer { return oneText(impl.TextCase(s, n), 0) }
		calls["TextCut"+name] = func(s, t, u string) textAnswer {
			return oneText(impl.TextCut(s, impl.Bound{}, impl.Bound{}, at(n)))
		}
	}
	return calls
}

func keepTexts() []string {
	return []string{"", "a", "b", "abcabc", "aé日😀", " a  b ", ",", "a,b,", "it's", "5", "*^9", ".1f", strings.Repeat("ab", impl.MaxText/2), "\xff", strings.Repeat("a", impl.MaxText+1)}
}

// sharesMemory tells whether two texts have a byte in common.
func sharesMemory(a string, b string) bool {
	if a == "" || b == "" {
		return false
	}
	x, y := uintptr(unsafe.Pointer(unsafe.StringData(a))), uintptr(unsafe.Pointer(unsafe.StringData(b)))
	return x < y+uintptr(len(b)) && y < x+uintptr(len(a))
}

func TestP20TextsTheSameTwice(t *testing.T) {
	for name, call := range textCalls() {
		for _, s := range keepTexts() {
			for _, u := range keepTexts() {
				first := call(s, u, "x")
				kept := first.copied()
				second := call(strings.Clone(s), strings.Clone(u), "x")
				if !second.equals(kept) {
					t.Fatal(name, "answers otherwise the second time:", shown(s), shown(u))
				}
				first.overwrite()
				if !second.equals(kept) || !call(s, u, "x").equals(kept) {
					t.Fatal(name, "keeps what it answered:", shown(s), shown(u))
				}
			}
		}
	}
}

func TestP20TextsAreNewMemory(t *testing.T) {
	for name, call := range textCalls() {
		for _, s := range keepTexts() {
			for _, u := range keepTexts() {
				given := []string{strings.Clone(s), strings.Clone(u), strings.Clone("x y")}
				got := call(given[0], given[1], given[2])
				for i, text := range got.texts {
					for _, arg := range given {
						if sharesMemory(text, arg) {
							t.Fatal(name, "answers memory of an argument:", shown(s), shown(u))
						}
					}
					if i > 0 && sharesMemory(text, got.texts[i-1]) {
						t.Fatal(name, "answers two texts that share memory:", shown(s), shown(u))
					}
				}
			}
		}
	}
}

func TestP20SlicesTheSameTwice(t *testing.T) {
	for _, n := range []int64{-1, 0, 1, 5, impl.MaxText} {
		for _, lo := range bounds(n) {
			for _, step := range append(steps(n), at(0)) {
				places, code := impl.SliceList(n, lo, impl.Bound{}, step)
				kept := slices.Clone(places)
				textAnswer{places: places}.overwrite()
				if again, other := impl.SliceList(n, lo, impl.Bound{}, step); other != code || !slices.Equal(again, kept) {
					t.Fatal("slice of", n, lo, step, "is otherwise the second time")
				}
			}
		}
	}
}

func TestP20JoinLeavesItsListAlone(t *testing.T) {
	for _, words := range [][]string{nil, {}, {"a"}, {"a", "b", "日"}, {"", ""}, {"a", "\xff"}, {strings.Repeat("a", impl.MaxText), "b"}} {
		for _, sep := range []string{"", ",", "日", "\xff"} {
			room := slices.Repeat([]string{"spare"}, len(words)+4)
			copy(room, words)
			kept := slices.Clone(room)
			first, code := impl.TextJoin(sep, room[:len(words)])
			second, other := impl.TextJoin(sep, room[:len(words)])
			if first != second || code != other {
				t.Fatal(sep, words, "joined otherwise the second time")
			}
			if !slices.Equal(room, kept) {
				t.Fatal(sep, words, "are written into")
			}
			if bare, other := impl.TextJoin(sep, slices.Clip(slices.Clone(words))); bare != first || other != code {
				t.Fatal(sep, words, "hang on the spare room")
			}
		}
	}
}

func TestP20FormatLeavesIntegersAlone(t *testing.T) {
	for _, spec := range []string{"", "d", "b", "o", "x", ",", "+09", "*^40x", "日=+9999", ".2", "s"} {
		for _, n := range keepNumbers() {
			a := renewed(n)
			first, code := impl.FormatBig(spec, a)
			if !slices.Equal(whole(a), whole(n)) {
				t.Fatal(spec, "writes into an argument:", n)
			}
			if second, other := impl.FormatBig(spec, a); second != first || other != code {
				t.Fatal(spec, "answers otherwise the second time:", n)
			}
			bare := impl.Big{Neg: n.Neg, Mag: append([]uint32(nil), n.Mag...)}
			if other, otherCode := impl.FormatBig(spec, bare); other != first || otherCode != code {
				t.Fatal(spec, "hangs on the spare room:", n)
			}
		}
	}
}

func TestP20FloatFormatsTheSameTwice(t *testing.T) {
	for _, spec := range []string{"", "f", ".0f", ".999f", ",", "+09.2f", "日=+9999", ".2", "d"} {
		for _, x := range floatEdges() {
			first, code := impl.FormatFloat(spec, x)
			if second, other := impl.FormatFloat(spec, x); second != first || other != code {
				t.Fatal(spec, "answers otherwise the second time:", x)
			}
		}
	}
}
