package tests

import (
	"cmp"
	"slices"
	"strconv"
	"strings"
	"testing"

	"loop.example/g00009/impl"
)

// partHead reads "KIND NAME x.local y/1 ..": a name with how it is meant, or a
// parameter with its Op, which is local unless it is told otherwise.
func partHead(head string) impl.Part {
	words := strings.Fields(head)
	full := fullCode().Parts[slices.Index(strings.Fields("module def class list set dict lazy gen"), words[0])]
	p := impl.Part{Kind: full.Kind, Form: full.Form, Gen: full.Gen, Name: words[1], Line: 1}
	hows := []string{"", "local", "cell", "free", "global", "class"}
	for _, word := range words[2:] {
		if name, op, ok := strings.Cut(word, "/"); ok {
			n, _ := strconv.ParseInt(op, 10, 64)
			p.Params = append(p.Params, impl.Param{Name: name, Op: n})
			continue
		}
		name, how, _ := strings.Cut(word, ".")
		p.Names = append(p.Names, impl.NameHow{Name: name, How: int64(slices.Index(hows, how))})
	}
	for _, x := range p.Params {
		if !slices.ContainsFunc(p.Names, func(n impl.NameHow) bool { return n.Name == x.Name }) {
			p.Names = append(p.Names, impl.NameHow{Name: x.Name, How: impl.HowLocal})
		}
	}
	slices.SortFunc(p.Names, func(a, b impl.NameHow) int { return cmp.Compare(a.Name, b.Name) })
	return p
}

// spokenOut replaces short words for several steps: say=X prints a const, show=a a
// name, tell what is on top, do=f calls a name and leaves what it answers, go=f
// drops that, end is None's return.
func spokenOut(text string) string {
	out := []string{}
	for _, word := range strings.Fields(text) {
		op, arg, _ := strings.Cut(word, "=")
		switch op {
		case "say":
			word = "Load=print Args Const=" + arg + " Add Call Pop"
		case "show":
			word = "Load=print Args Load=" + arg + " Add Call Pop"
		case "tell":
			word = "Store=_ Load=print Args Load=_ Add Call Pop"
		case "do":
			word = "Load=" + arg + " Args Call"
		case "go":
			word = "Load=" + arg + " Args Call Pop"
		case "end":
			word = "Const=None Return"
		}
		out = append(out, word)
	}
	return strings.Join(out, " ")
}

// codeBy is code of parts "HEAD | STEPS", parted by ||. The first one, without a
// head, is the module.
func codeBy(text string) impl.Code {
	c := impl.Code{}
	for i, piece := range strings.Split(text, "||") {
		head, steps := "module <module>", piece
		if i > 0 {
			head, steps, _ = strings.Cut(piece, "|")
		}
		p := partHead(head)
		made := assembled(stepsOf(spokenOut(steps)))
		p.Consts, p.Words, p.Instrs = made.Consts, made.Words, made.Instrs
		c.Parts = append(c.Parts, p)
	}
	return c
}

// around puts the parts of a text, compiled, behind code, and does its module ahead
// of that of the code. Parts of the code are named as they stand there.
func around(t *testing.T, src string, c impl.Code) impl.Code {
	t.Helper()
	before := codeOf(t, src)
	shift := int64(len(c.Parts)) - 1
	for i := range before.Parts {
		for k, in := range before.Parts[i].Instrs {
			switch in.Op {
			case impl.IFunc, impl.IClass, impl.IComp, impl.IGen:
				before.Parts[i].Instrs[k].Arg += shift
			}
		}
	}
	first := before.Parts[0]
	main := c.Parts[0]
	// The end of the text's module, None and its return, makes way.
	first.Instrs = first.Instrs[:len(first.Instrs)-2]
	main.Pats = append(first.Pats, main.Pats...)
	moved := movedPart(main, first)
	moved.Names, moved.Pats = nil, main.Pats
	parts := append([]impl.Part{moved}, c.Parts[1:]...)
	return impl.Code{Parts: append(parts, before.Parts[1:]...)}
}

// movedPart puts the instructions of a part behind those of another one, whose
// constants and words come first.
func movedPart(p impl.Part, behind impl.Part) impl.Part {
	out := p
	out.Instrs = slices.Clone(behind.Instrs)
	out.Consts = slices.Concat(behind.Consts, p.Consts)
	out.Words = slices.Concat(behind.Words, p.Words)
	for _, in := range p.Instrs {
		switch name := instrName(in.Op); {
		case hasAim(in.Op):
			in.Arg += int64(len(behind.Instrs))
		case name == "Const":
			in.Arg += int64(len(behind.Consts))
		case slices.Contains([]string{"Load", "Store", "Unbind", "Key", "Attr", "SetAttr", "DelAttr", "Import", "From"}, name):
			in.Arg += int64(len(behind.Words))
		case name == "Format":
			in.Arg += 4 * int64(len(behind.Words))
		case (name == "Handle" || name == "HandleEnd") && in.Arg > 0:
			in.Arg += int64(len(behind.Words))
		case name == "Case":
			in.Arg += int64(len(behind.Pats))
		}
		out.Instrs = append(out.Instrs, in)
	}
	return out
}

// codeRun is code with what it has to tell: the lines that it prints, parted by
// blanks, and the text of what it raises.
type codeRun struct {
	code string
	text string
	exc  string
}

func wantCodeRun(t *testing.T, what string, c impl.Code, text string, exc string) impl.Out {
	t.Helper()
	if !impl.CodeOk(c) {
		t.Errorf("%s\n%s\n can't be run", what, codeTold(c))
		return impl.Out{}
	}
	code := int64(impl.OutEnd)
	if exc != "" {
		code = impl.OutRaised
	}
	o := impl.RunCode(c, 5000)
	if o.Code != code || strings.Join(strings.Split(strings.TrimSuffix(o.Text, "\n"), "\n"), " ") != text || o.Exc != exc {
		t.Errorf("%s\n tells %s\n not %q %q", what, outTold(o), text, exc)
	}
	for how, d := range map[string]impl.Code{"improved": impl.Improve(c), "read back": readBack(t, c)} {
		if other := impl.RunCode(d, 5000); !sameOut(o, other) {
			t.Errorf("%s\n tells %s\n %s %s", what, outTold(o), how, outTold(other))
		}
	}
	return o
}

func readBack(t *testing.T, c impl.Code) impl.Code {
	t.Helper()
	b, _ := impl.PackCode(c)
	d, code := impl.ReadCode(b)
	if code != impl.PackOk {
		t.Error("not read back", code)
	}
	return d
}

func wantTold(t *testing.T, list []codeRun) {
	t.Helper()
	for _, row := range list {
		wantCodeRun(t, row.code, codeBy(row.code), row.text, row.exc)
	}
}

// wantToldAround is wantTold behind the statements of a text.
func wantToldAround(t *testing.T, src string, list []codeRun) {
	t.Helper()
	for _, row := range list {
		wantCodeRun(t, row.code, around(t, src, codeBy(row.code)), row.text, row.exc)
	}
}

func repeated(n int, text string) string { return strings.Repeat(text+" ", n) }
