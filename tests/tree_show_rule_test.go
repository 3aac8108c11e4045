package tests

import (
	"slices"
	"strings"

	"loop.example/g00009/impl"
)

// showRule is the text of a tree by the document's words, written out kind by
// kind; false where a node has no text at all. What it is not asked is whether
// the text is read as this tree.
func showRule(tree impl.Tree) (text string, ok bool) {
	defer func() {
		if recover() != nil {
			text, ok = "", false
		}
	}()
	return stmtsRule(branchOf(tree).kids, ""), true
}

// stmtsRule are statements, each a line of its own.
func stmtsRule(list []*branch, indent string) string {
	out := ""
	for _, b := range list {
		out += stmtRule(b, indent)
	}
	return out
}

func blockRule(b *branch, indent string) string {
	if b.kind != impl.NBlock {
		panic("no block")
	}
	return ":\n" + stmtsRule(b.kids, indent+"    ")
}

// ifThere is a text around a node that may be missing.
func ifThere(list []*branch, i int, f func(b *branch) string) string {
	if i >= len(list) || list[i].kind == impl.NAbsent {
		return ""
	}
	return f(list[i])
}

func stmtRule(b *branch, indent string) string {
	k := b.kids
	block := func(word string) func(b *branch) string {
		return func(b *branch) string { return indent + word + blockRule(b, indent) }
	}
	elseOf := func(i int) string { return ifThere(k, i, block("else")) }
	switch b.kind {
	case impl.NIf:
		return indent + "if " + bareRule(k[0]) + blockRule(k[1], indent) + elseOf(2)
	case impl.NWhile:
		return indent + "while " + bareRule(k[0]) + blockRule(k[1], indent) + elseOf(2)
	case impl.NLoop:
		return indent + "for " + bareRule(k[0]) + " in " + bareRule(k[1]) + blockRule(k[2], indent) + elseOf(3)
	case impl.NTry:
		last := len(k) - 1
		return indent + "try" + blockRule(k[0], indent) + stmtsRule(k[1:last-1], indent) + elseOf(last-1) + ifThere(k, last, block("finally"))
	case impl.NHandler:
		as := ""
		if b.text != "" {
			as = " as " + b.text
		}
		return indent + "except" + ifThere(k, 0, func(e *branch) string { return " " + bareRule(e) }) + as + blockRule(k[1], indent)
	case impl.NWith:
		return indent + "with " + bareRule(k[0]) + ifThere(k, 1, func(e *branch) string { return " as " + bareRule(e) }) + blockRule(k[2], indent)
	case impl.NDef:
		return decoratorsRule(k[2:], indent) + indent + "def " + b.text + "(" + paramsRule(k[0]) + ")" + blockRule(k[1], indent)
	case impl.NClass:
		bases := ""
		if len(k[0].kids) > 0 {
			bases = "(" + commasRule(k[0].kids) + ")"
		}
		return decoratorsRule(k[2:], indent) + indent + "class " + b.text + bases + blockRule(k[1], indent)
	case impl.NMatch:
		return indent + "match " + bareRule(k[0]) + ":\n" + stmtsRule(k[1:], indent+"    ")
	case impl.NCase:
		return indent + "case " + patternText(k[0]) + ifThere(k, 1, func(e *branch) string { return " if " + bareRule(e) }) + blockRule(k[2], indent)
	}
	return indent + simpleRule(b) + "\n"
}

func decoratorsRule(list []*branch, indent string) string {
	out := ""
	for _, b := range list {
		out += indent + "@" + bareRule(b) + "\n"
	}
	return out
}

func simpleRule(b *branch) string {
	var words []string
	for _, kid := range b.kids {
		if b.kind != impl.NFrom {
			words = append(words, bareRule(kid))
		}
	}
	switch b.kind {
	case impl.NExpr:
		return words[0]
	case impl.NAssign:
		return strings.Join(words, " = ")
	case impl.NAug:
		return words[0] + " " + binarySigns()[b.op-1] + "= " + words[1]
	case impl.NDel:
		return "del " + words[0]
	case impl.NPass, impl.NBreak, impl.NContinue, impl.NReturn:
		return strings.Join(append([]string{strings.ToLower(nodeWord(b.kind))}, words...), " ")
	case impl.NRaise:
		return "raise" + strings.TrimSuffix(" "+strings.Join(words, " from "), " ")
	case impl.NAssert:
		return "assert " + strings.Join(words, ", ")
	case impl.NGlobal, impl.NNonlocal:
		return strings.ToLower(nodeWord(b.kind)) + " " + strings.Join(words, ", ")
	case impl.NImport:
		return "import " + aliasRule(b)
	case impl.NFrom:
		for _, kid := range b.kids {
			words = append(words, aliasRule(kid))
		}
		return "from " + b.text + " import " + strings.Join(words, ", ")
	}
	panic("no statement")
}

func aliasRule(b *branch) string {
	if b.kids[0].text == b.text {
		return b.text
	}
	return b.text + " as " + b.kids[0].text
}

func binarySigns() []string {
	return []string{"|", "^", "&", "<<", ">>", "+", "-", "*", "/", "//", "%", "**"}
}

// commasRule are things with commas between.
func commasRule(list []*branch) string {
	words := make([]string, len(list))
	for i, b := range list {
		words[i] = bareRule(b)
	}
	return strings.Join(words, ", ")
}

// kidRule is a Kid of an expression, in brackets unless it is a closed one.
func kidRule(b *branch) string {
	closed := []int64{impl.NInt, impl.NFloat, impl.NStr, impl.NFStr, impl.NName, impl.NConst, impl.NAttr, impl.NIndex, impl.NCall, impl.NTuple, impl.NList, impl.NSet, impl.NDict, impl.NListComp, impl.NSetComp, impl.NDictComp, impl.NGenExp, impl.NWalrus, impl.NYield, impl.NYieldFrom}
	if slices.Contains(closed, b.kind) {
		return bareRule(b)
	}
	return "(" + bareRule(b) + ")"
}

// bareRule is an expression, or what stands in one, without more brackets.
func bareRule(b *branch) string {
	k := b.kids
	switch b.kind {
	case impl.NInt, impl.NFloat, impl.NName:
		return b.text
	case impl.NStr:
		return impl.TextRepr(b.text)
	case impl.NFStr:
		return fstringRule(k)
	case impl.NConst:
		return []string{"None", "False", "True"}[b.op]
	case impl.NAttr:
		if k[0].kind == impl.NInt || k[0].kind == impl.NFloat {
			return "(" + bareRule(k[0]) + ")." + b.text
		}
		return kidRule(k[0]) + "." + b.text
	case impl.NIndex:
		return kidRule(k[0]) + "[" + indexRule(k[1]) + "]"
	case impl.NSlice:
		step := ifThere(k, 2, func(e *branch) string { return ":" + bareRule(e) })
		return ifThere(k, 0, bareRule) + ":" + ifThere(k, 1, bareRule) + step
	case impl.NCall:
		return kidRule(k[0]) + "(" + commasRule(k[1:]) + ")"
	case impl.NStar:
		return "*" + bareRule(k[0])
	case impl.NKey:
		return b.text + "=" + bareRule(k[0])
	case impl.NKStar:
		return "**" + bareRule(k[0])
	case impl.NPair:
		return bareRule(k[0]) + ": " + bareRule(k[1])
	}
	return bracketsRule(b)
}

func bracketsRule(b *branch) string {
	k := b.kids
	switch b.kind {
	case impl.NTuple:
		if len(k) == 1 {
			return "(" + bareRule(k[0]) + ",)"
		}
		return "(" + commasRule(k) + ")"
	case impl.NList:
		return "[" + commasRule(k) + "]"
	case impl.NSet, impl.NDict:
		return "{" + commasRule(k) + "}"
	case impl.NListComp:
		return "[" + bareRule(k[0]) + clausesRule(k[1:]) + "]"
	case impl.NSetComp:
		return "{" + bareRule(k[0]) + clausesRule(k[1:]) + "}"
	case impl.NGenExp:
		return "(" + bareRule(k[0]) + clausesRule(k[1:]) + ")"
	case impl.NDictComp:
		return "{" + bareRule(k[0]) + ": " + bareRule(k[1]) + clausesRule(k[2:]) + "}"
	case impl.NWalrus:
		return "(" + b.text + " := " + bareRule(k[0]) + ")"
	case impl.NYield:
		return "(yield" + ifThere(k, 0, func(e *branch) string { return " " + bareRule(e) }) + ")"
	case impl.NYieldFrom:
		return "(yield from " + bareRule(k[0]) + ")"
	}
	return operatorRule(b)
}

func operatorRule(b *branch) string {
	k := b.kids
	switch b.kind {
	case impl.NLambda:
		return strings.TrimSuffix("lambda "+paramsRule(k[0]), " ") + ": " + bareRule(k[1])
	case impl.NCond:
		return kidRule(k[1]) + " if " + kidRule(k[0]) + " else " + kidRule(k[2])
	case impl.NBool:
		return kidRule(k[0]) + []string{" and ", " or "}[b.op-1] + kidRule(k[1])
	case impl.NNot:
		return "not " + kidRule(k[0])
	case impl.NCompare:
		out := kidRule(k[0])
		for _, side := range k[1:] {
			out += " " + []string{"<", "<=", ">", ">=", "==", "!=", "in", "not in", "is", "is not"}[side.op-1] + " " + kidRule(side.kids[0])
		}
		return out
	case impl.NBinary:
		if b.op == 12 {
			return kidRule(k[0]) + "**" + kidRule(k[1])
		}
		return kidRule(k[0]) + " " + binarySigns()[b.op-1] + " " + kidRule(k[1])
	case impl.NUnary:
		return "+-~"[b.op-1:b.op] + kidRule(k[0])
	}
	panic("no expression")
}

func clausesRule(list []*branch) string {
	part := func(b *branch) string {
		if b.kind == impl.NCond || b.kind == impl.NLambda {
			return "(" + bareRule(b) + ")"
		}
		return bareRule(b)
	}
	out := ""
	for _, b := range list {
		out += " for " + bareRule(b.kids[0]) + " in " + part(b.kids[1])
		for _, test := range b.kids[2:] {
			out += " if " + part(test)
		}
	}
	return out
}

func indexRule(b *branch) string {
	if b.kind != impl.NTuple || !slices.ContainsFunc(b.kids, func(kid *branch) bool { return kid.kind == impl.NSlice }) {
		return bareRule(b)
	}
	text := bareRule(b)
	return text[1 : len(text)-1]
}

func fstringRule(parts []*branch) string {
	out := ""
	for _, part := range parts {
		if part.kind == impl.NStr {
			// In front a ' makes it be in ".
			lit := impl.TextRepr("'" + strings.ReplaceAll(part.text, `"`, ""))
			lit = lit[2 : len(lit)-1]
			if strings.Contains(part.text, `"`) {
				pieces := strings.Split(part.text, `"`)
				for i, piece := range pieces {
					repr := impl.TextRepr("'" + piece)
					pieces[i] = repr[2 : len(repr)-1]
				}
				lit = strings.Join(pieces, `\"`)
			}
			out += strings.NewReplacer("{", "{{", "}", "}}").Replace(lit)
			continue
		}
		spec := part.text
		if spec != "" {
			spec = ":" + spec
		}
		out += "{(" + bareRule(part.kids[0]) + ")" + []string{"", "!r", "!s"}[part.op] + spec + "}"
	}
	return `f"` + out + `"`
}

func paramsRule(b *branch) string {
	var words []string
	starred := false
	for _, param := range b.kids {
		word := []string{"", "*", "", "**"}[param.op-1] + param.text
		if param.op == 3 && !starred {
			word = "*, " + word
		}
		starred = starred || param.op == 2 || param.op == 3
		words = append(words, word+ifThere(param.kids, 0, func(e *branch) string { return "=" + bareRule(e) }))
	}
	return strings.Join(words, ", ")
}

func patternsText(list []*branch, open string, close string) string {
	words := make([]string, len(list))
	for i, b := range list {
		words[i] = patternText(b)
	}
	return open + strings.Join(words, ", ") + close
}

func patternText(b *branch) string {
	side := func(b *branch) string {
		if b.kind == impl.POr || b.kind == impl.PAs {
			return "(" + patternText(b) + ")"
		}
		return patternText(b)
	}
	switch b.kind {
	case impl.PValue:
		return bareRule(b.kids[0])
	case impl.PCapture:
		return b.text
	case impl.PAny:
		return "_"
	case impl.PSeq:
		return patternsText(b.kids, "[", "]")
	case impl.PStar:
		if b.text == "" {
			return "*_"
		}
		return "*" + b.text
	case impl.PMap:
		return patternsText(b.kids, "{", "}")
	case impl.PPair:
		return bareRule(b.kids[0]) + ": " + patternText(b.kids[1])
	case impl.PRest:
		return "**" + b.text
	case impl.PClass:
		return bareRule(b.kids[0]) + patternsText(b.kids[1:], "(", ")")
	case impl.PKey:
		return b.text + "=" + patternText(b.kids[0])
	case impl.POr:
		words := make([]string, len(b.kids))
		for i, kid := range b.kids {
			words[i] = side(kid)
		}
		return strings.Join(words, " | ")
	case impl.PAs:
		return side(b.kids[0]) + " as " + b.text
	}
	panic("no pattern")
}
