package tests

import (
	"slices"
	"strings"
	"testing"

	"loop.example/g00009/impl"
)

func TestP4KindsAndFaultsAreCounted(t *testing.T) {
	kinds := []int64{impl.TkName, impl.TkKey, impl.TkInt, impl.TkFloat, impl.TkStr, impl.TkFStr, impl.TkOp, impl.TkLine, impl.TkIndent, impl.TkDedent, impl.TkEnd}
	faults := []int64{impl.FaultText, impl.FaultIndent, impl.FaultBracket, impl.FaultString, impl.FaultNumber, impl.FaultChar, impl.FaultLarge}
	for i, kind := range kinds {
		if kind != int64(i+1) || i < len(faults) && faults[i] != int64(i+1) {
			t.Error("kinds and faults are not counted as the document does:", kinds, faults)
		}
	}
}

func TestP4Names(t *testing.T) {
	for _, name := range []string{"a", "z", "A", "Z", "_", "__", "a9", "_0", "aZ_09", "r", "f", "rf", "R", "e5", "x_f", "print", "self", "async", "await", "none", "true", "false", "NONE"} {
		wantOne(t, name, impl.TkName, name)
	}
	for _, word := range keyWords() {
		wantOne(t, word, impl.TkKey, word)
		for _, name := range []string{word + "_", word + "s", word + "0", "_" + word, "x" + word, word + word, strings.ToUpper(word), strings.ToUpper(word[:1]) + word[1:] + "A"} {
			wantOne(t, name, impl.TkName, name)
		}
		for n := range word {
			if part := word[:n]; part != "" && !slices.Contains(keyWords(), part) {
				wantOne(t, part, impl.TkName, part)
			}
		}
		wantKinds(t, word+" "+word+"("+word+")", "key("+word+") key("+word+") op(() key("+word+") op())")
	}
	if len(keyWords()) != 35 {
		t.Error("the document has 35 words:", len(keyWords()))
	}
	wantKinds(t, "a.b", "name(a) op(.) name(b)")
	wantKinds(t, "a'b'c", "name(a) str(b) name(c)")
	wantKinds(t, "rf'b' fr'b' R'b' F'b' u'b' b'b'", "name(rf) str(b) name(fr) str(b) name(R) str(b) name(F) str(b) name(u) str(b) name(b) str(b)")
	wantKinds(t, "xr'b' _f'b' 'a'r'b'", "name(xr) str(b) name(_f) str(b) str(a) str(b)")
}

func TestP4LongNames(t *testing.T) {
	for _, first := range []string{"a", "Z", "_", "if"} {
		for _, rest := range []string{"a", "_", "9", "Z"} {
			long := first + strings.Repeat(rest, impl.MaxName-len(first))
			wantOne(t, long, impl.TkName, long)
			wantKinds(t, long+"'x'", "name("+long+") str(x)")
			wantFault(t, long+rest, impl.FaultLarge, 1)
			wantFault(t, "\n"+long+rest+"'", impl.FaultLarge, 2)
			wantFault(t, strings.Repeat(long, 200), impl.FaultLarge, 1)
		}
	}
	// What has no limit of its own.
	wantOne(t, "'"+strings.Repeat("a", impl.MaxName+1)+"'", impl.TkStr, strings.Repeat("a", impl.MaxName+1))
}

func TestP4Operators(t *testing.T) {
	for _, op := range operators() {
		switch {
		case strings.Contains("([{", op):
			closing := ")]}"[strings.Index("([{", op):][:1]
			wantKinds(t, op+closing, "op("+op+") op("+closing+")")
		case strings.Contains(")]}", op):
			wantFault(t, op, impl.FaultBracket, 1)
		default:
			wantOne(t, op, impl.TkOp, op)
			wantKinds(t, "a"+op+"b", "name(a) op("+op+") name(b)")
			wantKinds(t, "'a'"+op+" 1", "str(a) op("+op+") int(1)")
		}
	}
	for src, want := range map[string]string{
		"***": "** *", "**=": "**=", "***=": "** *=", "****": "** **", "* *": "* *", "* =": "* =", "// /": "// /", "///": "// /", "//==": "//= =", "<<<": "<< <", "<<=": "<<=", "<<<=": "<< <=", "<<==": "<<= =",
		">>>=": ">> >=", ">>>>": ">> >>", "<>": "< >", "><": "> <", "=<": "= <", "=>": "= >", "===": "== =", "====": "== ==", "!==": "!= =", ":==": ":= =", "::=": ": :=", ":::": ": : :", "->": "- >", "@=": "@ =", "~=": "~ =", "++": "+ +", "+-=": "+ -=", "-==": "-= =", "&&=": "& &=", "|||": "| | |", "^^=": "^ ^=", "%%": "% %", "...": ". . .", "..=": ". . =", "<=>": "<= >", "< =": "< =", "@@": "@ @", ";;": "; ;", ",,": ", ,",
	} {
		wantKinds(t, src, "op("+strings.Join(strings.Fields(want), ") op(")+")")
	}
}

// TestP4OperatorsLongest holds each two and three signs against the longest
// operator that they begin with.
func TestP4OperatorsLongest(t *testing.T) {
	signs := "*/<>=!:+-%&|^~@,.;"
	for _, src := range allTexts(signs, 3) {
		var words []string
		for rest := src; rest != ""; {
			best := ""
			for _, op := range operators() {
				if strings.HasPrefix(rest, op) && len(op) > len(best) {
					best = op
				}
			}
			if best == "" {
				break
			}
			words, rest = append(words, "op("+best+")"), rest[len(best):]
		}
		if len(src) != len(strings.Join(words, ""))-4*len(words) {
			wantFault(t, src, impl.FaultChar, 1)
		} else if src != "" {
			wantKinds(t, src, strings.Join(words, " "))
		}
	}
}

func TestP4SignsThatBeginNoToken(t *testing.T) {
	tokens := "_'\"([{)]}#\n \t\r\\"
	for _, op := range operators() {
		tokens += op[:1]
	}
	list := []string{"!", "! =", "!a", "\u0080", "\u00a0", "é", "日", "😀", badMark, lastPoint, "\ufeff", "\u2028", "ａ", "１"}
	for c := range rune(128) {
		if !strings.ContainsRune(tokens, c) && !('0' <= c && c <= '9' || 'a' <= c && c <= 'z' || 'A' <= c && c <= 'Z') {
			list = append(list, string(c))
		}
	}
	if len(list) < 40 {
		t.Error("too few signs:", len(list))
	}
	for _, sign := range list {
		wantFault(t, sign, impl.FaultChar, 1)
		wantFault(t, "a"+sign, impl.FaultChar, 1)
		wantFault(t, "\n  a\n  b "+sign+" c", impl.FaultChar, 3)
		wantFault(t, "(\n'x'"+sign, impl.FaultChar, 2)
		wantFault(t, "1"+sign, impl.FaultChar, 1)
		wantToks(t, "#"+sign, "1:end")
		wantOne(t, "'"+sign+"'", impl.TkStr, sign)
	}
}
