package tests

import (
	"fmt"
	"slices"
	"strconv"
	"strings"
	"testing"

	"loop.example/g00009/impl"
)

// instrNames are those of the instructions, in the order of their Ops, without the
// I in front.
const instrNames = "Const Load Store Unbind Pop Dup Dup2 Swap Rot Args Add AddAll Finish Dict Put Merge Key Keys Call Deco Attr SetAttr DelAttr Item SetItem DelItem Slice Binary Aug Unary Compare Not Jump False FalseKeep TrueKeep Func Class Comp Gen Iter For Collect Yield YieldFrom Format Join Unpack Stmt Turn Return Break Continue Loop Try Fin With BlockEnd Match Handle HandleEnd Again Reraise Raise Assert Case Import From"

func instrOp(name string) int64 {
	at := slices.Index(instrNameList, name)
	if at < 0 {
		panic("no instruction " + name)
	}
	return int64(at + 1)
}

var instrNameList = strings.Fields(instrNames)

func instrName(op int64) string {
	if op < 1 || op > int64(len(instrNameList)) {
		return fmt.Sprintf("?%d", op)
	}
	return instrNameList[op-1]
}

// step is an instruction of which the Arg is not known yet, or a label. Its arg is
// that which needs says: the place of a const, of a word, or of a label, a number.
type step struct {
	op    string
	needs byte
	num   int64
	text  string
}

const (
	needsNothing = byte(iota)
	needsConst
	needsWord
	needsLabel
	isLabel
)

// assembled are the lists of a part with these steps; its patterns are put there
// by who has them.
func assembled(steps []step) impl.Part {
	p := impl.Part{}
	places := map[string]int64{}
	for _, s := range steps {
		if s.needs == isLabel {
			places[s.text] = int64(len(p.Instrs))
			continue
		}
		in := impl.Instr{Op: instrOp(s.op), Arg: s.num}
		switch s.needs {
		case needsConst:
			in.Arg = placeIn(&p.Consts, impl.Const{Kind: s.num, Text: s.text})
		case needsWord:
			// The number is what is done with the place: an IFormat has 4 times it.
			in.Arg = placeIn(&p.Words, s.text)
			switch s.op {
			case "Format":
				in.Arg = 4*in.Arg + s.num
			case "Handle", "HandleEnd":
				in.Arg++
			}
		}
		p.Instrs = append(p.Instrs, in)
	}
	at := 0
	for _, s := range steps {
		if s.needs == needsLabel {
			p.Instrs[at].Arg = places[s.text]
		}
		if s.needs != isLabel {
			at++
		}
	}
	return p
}

func placeIn[T comparable](list *[]T, x T) int64 {
	at := slices.Index(*list, x)
	if at < 0 {
		*list = append(*list, x)
		at = len(*list) - 1
	}
	return int64(at)
}

// stepsOf reads "Stmt=1 Load=a False>x Const=None x: Pop": behind = stands a
// number, a const or a word, behind > a label.
func stepsOf(text string) []step {
	out := []step{}
	for _, word := range strings.Fields(text) {
		if name, ok := strings.CutSuffix(word, ":"); ok {
			out = append(out, step{needs: isLabel, text: name})
			continue
		}
		if op, label, ok := strings.Cut(word, ">"); ok {
			out = append(out, step{op: op, needs: needsLabel, text: label})
			continue
		}
		op, arg, _ := strings.Cut(word, "=")
		out = append(out, stepOf(op, arg))
	}
	return out
}

func stepOf(op string, arg string) step {
	switch op {
	case "Const":
		c := constTold(arg)
		return step{op: op, needs: needsConst, num: c.Kind, text: c.Text}
	case "Load", "Store", "Unbind", "Key", "Attr", "SetAttr", "DelAttr", "Import", "From":
		return step{op: op, needs: needsWord, text: arg}
	case "Handle", "HandleEnd":
		if arg != "0" {
			return step{op: op, needs: needsWord, text: arg}
		}
	case "Format":
		// Format=SPEC/CONV
		spec, conv, _ := strings.Cut(arg, "/")
		n, _ := strconv.ParseInt(conv, 10, 64)
		return step{op: op, needs: needsWord, num: n, text: spec}
	}
	n, _ := strconv.ParseInt(arg, 10, 64)
	return step{op: op, num: n}
}

// constTold reads None, False, True, 12, 1.5 and 'text'.
func constTold(text string) impl.Const {
	if kind := slices.Index([]string{"None", "False", "True"}, text); kind >= 0 {
		return impl.Const{Kind: int64(kind)}
	}
	if strings.HasPrefix(text, "'") {
		return impl.Const{Kind: impl.ConstText, Text: strings.Trim(text, "'")}
	}
	if strings.ContainsAny(text, ".en") {
		return impl.Const{Kind: impl.ConstFloat, Text: text}
	}
	return impl.Const{Kind: impl.ConstInt, Text: text}
}

// listing is what a part does, for who reads of a failure.
func listing(p impl.Part) string {
	out := []string{fmt.Sprintf("%s kind %d form %d gen %v line %d params %v names %v consts %v words %q pats %d", p.Name, p.Kind, p.Form, p.Gen, p.Line, p.Params, p.Names, p.Consts, p.Words, len(p.Pats))}
	for i, in := range p.Instrs {
		out = append(out, fmt.Sprintf("%d %s %d", i, instrName(in.Op), in.Arg))
	}
	return strings.Join(out, "\n")
}

func codeTold(c impl.Code) string {
	out := []string{}
	for _, p := range c.Parts {
		out = append(out, listing(p))
	}
	return strings.Join(out, "\n\n")
}

func samePart(a impl.Part, b impl.Part) bool {
	return a.Name == b.Name && a.Kind == b.Kind && a.Form == b.Form && a.Gen == b.Gen && a.Line == b.Line &&
		slices.Equal(a.Params, b.Params) && slices.Equal(a.Names, b.Names) && slices.Equal(a.Consts, b.Consts) &&
		slices.Equal(a.Words, b.Words) && slices.EqualFunc(a.Pats, b.Pats, sameTree) && slices.Equal(a.Instrs, b.Instrs)
}

func sameCode(a impl.Code, b impl.Code) bool { return slices.EqualFunc(a.Parts, b.Parts, samePart) }

func codeOf(t *testing.T, src string) impl.Code {
	t.Helper()
	tree, fault := impl.Parse(src)
	if fault.Code != 0 {
		t.Fatalf("%s: %v", src, fault)
	}
	c, fault := impl.Compile(tree)
	if fault.Code != 0 {
		t.Fatalf("%s: %v", src, fault)
	}
	return c
}

// wantSteps compiles a text: its parts have these steps, parted by ||. Of a part
// that is left out (-) nothing is asked.
func wantSteps(t *testing.T, src string, parts string) {
	t.Helper()
	c := codeOf(t, src)
	list := strings.Split(parts, "||")
	if len(c.Parts) != len(list) {
		t.Errorf("%s: %d parts, not %d", src, len(c.Parts), len(list))
		return
	}
	for i, text := range list {
		if strings.TrimSpace(text) == "-" {
			continue
		}
		got, want := c.Parts[i], assembled(stepsOf(text))
		if !slices.Equal(got.Instrs, want.Instrs) || !slices.Equal(got.Consts, want.Consts) || !slices.Equal(got.Words, want.Words) {
			t.Errorf("%s\n part %d is %s\n not %s", src, i, listing(got), listing(want))
		}
	}
}

// wantRows goes through rows "SOURCE => STEPS", a newline in the source being
// written \n. put stands around the steps of the first part.
func wantRows(t *testing.T, rows string, put string) {
	t.Helper()
	for _, row := range strings.Split(strings.Trim(rows, "\n"), "\n") {
		src, steps, ok := strings.Cut(row, " => ")
		if !ok {
			t.Fatal("no row:", row)
		}
		first, others, more := strings.Cut(steps, "||")
		steps = fmt.Sprintf(put, first)
		if more {
			steps += "||" + others
		}
		wantSteps(t, strings.ReplaceAll(src, `\n`, "\n"), steps)
	}
}
