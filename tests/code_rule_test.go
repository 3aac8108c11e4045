package tests

import (
	"fmt"
	"math/rand"
	"strings"
	"testing"

	"loop.example/g00009/impl"
)

// valueRows are those of chapter 13: what is taken, what is left, by what.
const valueRows = `
, V : Const Load
V, : Store False
, : Unbind Stmt Turn Jump
V, V V : Dup Case
V V, V V V V : Dup2
V V, V V : Swap
V V V, V V V : Rot
, A : Args
A V, A : Add AddAll Key Keys
A, V : Func Class
, D : Dict
D V V, D : Put
D V, D : Merge
V A, V : Call
V V, V : Deco Item Binary Aug Compare
V, V : Attr Unary Not Yield Format
V V, : SetAttr DelItem
V, : DelAttr FalseKeep TrueKeep
V V V, : SetItem
V V V, V : Slice
V, I : Iter
I, V : Comp Gen
I V, V : YieldFrom
E, : Reraise Handle
E V, E : Match
, M : Import
M, M V : From
`

var effectRule = func() map[string][2]string {
	out := map[string][2]string{}
	for _, row := range strings.Split(strings.Trim(valueRows, "\n"), "\n") {
		values, names, _ := strings.Cut(row, " : ")
		takes, leaves, _ := strings.Cut(values, ",")
		for _, name := range strings.Fields(names) {
			out[name] = [2]string{strings.ReplaceAll(takes, " ", ""), strings.ReplaceAll(leaves, " ", "")}
		}
	}
	return out
}()

// ruleWay is what a way brings to a place: its values, and its blocks as texts.
type ruleWay struct {
	vals   string
	blocks string
}

type ruleBlock struct {
	kind   string
	arg    int64
	height int
}

func (w ruleWay) inner() (ruleBlock, string, bool) {
	if w.blocks == "" {
		return ruleBlock{}, "", false
	}
	at := strings.LastIndex(strings.TrimSuffix(w.blocks, ";"), ";") + 1
	b := ruleBlock{}
	fmt.Sscanf(strings.TrimSuffix(w.blocks[at:], ";"), "%s %d %d", &b.kind, &b.arg, &b.height)
	return b, w.blocks[:at], true
}

func (w ruleWay) begin(kind string, arg int64) ruleWay {
	w.blocks += fmt.Sprintf("%s %d %d;", kind, arg, len(w.vals))
	return w
}

// take takes values from the top, if they are there and no block keeps them.
func (w ruleWay) take(kinds string) (ruleWay, bool) {
	b, _, _ := w.inner()
	left := len(w.vals) - len(kinds)
	if left < b.height || left < 0 {
		return w, false
	}
	for i := range kinds {
		if have := w.vals[left+i]; have != kinds[i] && (have != 'M' || kinds[i] != 'V') {
			return w, false
		}
	}
	w.vals = w.vals[:left]
	return w, true
}

func (w ruleWay) and(vals string) ruleWay {
	w.vals += vals
	return w
}

// ruleAim is a place to which a way goes.
type ruleAim struct {
	place int64
	way   ruleWay
}

// ruleStep is where ways go on behind an instruction.
func ruleStep(p impl.Part, at int64, w ruleWay) ([]ruleAim, bool) {
	in := p.Instrs[at]
	name := instrName(in.Op)
	row := effectRule[name]
	n := strings.Repeat("V", int(min(in.Arg, 20000)))
	switch name {
	case "Unpack":
		row = [2]string{"V", strings.Repeat("V", int(in.Arg%10000))}
	case "Join":
		row = [2]string{n, "V"}
	case "Raise", "Assert":
		row = [2]string{n, ""}
	case "Finish":
		row = [2]string{map[bool]string{true: "D", false: "A"}[in.Arg == 3], "V"}
	case "Collect":
		row = [2]string{map[bool]string{true: "VV", false: "V"}[p.Form == impl.FormDict], ""}
		if p.Form < impl.FormList || p.Form > impl.FormDict {
			return nil, false
		}
	}
	b, around, has := w.inner()
	out := ruleWay{vals: w.vals, blocks: around}
	switch name {
	case "Pop":
		base := b.height
		if len(w.vals) <= base || strings.HasSuffix(w.vals, "C") {
			return nil, false
		}
		return []ruleAim{{at + 1, ruleWay{w.vals[:len(w.vals)-1], w.blocks}}}, true
	case "Return":
		_, plain := w.take("V")
		_, all := w.take("C")
		return nil, plain || all
	case "For":
		return []ruleAim{{at + 1, w.and("V")}, {in.Arg, w}}, strings.HasSuffix(w.vals, "I")
	case "Break", "Continue":
		return nil, strings.Contains(w.blocks, "Loop")
	case "Loop":
		return []ruleAim{{at + 1, w.begin(name, in.Arg)}, {in.Arg, w}}, true
	case "Try":
		return []ruleAim{{at + 1, w.begin(name, in.Arg)}, {in.Arg, w.and("E")}}, true
	case "Fin":
		return []ruleAim{{at + 1, w.begin(name, in.Arg)}, {in.Arg, w.begin("Pending", in.Arg)}}, true
	case "With":
		rest, ok := w.take("V")
		return []ruleAim{{at + 1, rest.begin(name, in.Arg).and("V")}, {in.Arg, rest}}, ok
	case "BlockEnd":
		if b.kind == "Fin" {
			out = out.begin("Pending", b.arg)
		}
		return []ruleAim{{at + 1, out}}, has && b.kind != "Pending" && b.kind != "Handle" && b.height == len(w.vals)
	case "Again":
		return []ruleAim{{at + 1, out}}, b.kind == "Pending"
	case "HandleEnd":
		return []ruleAim{{at + 1, out}}, b.kind == "Handle" && b.arg == in.Arg
	}
	rest, ok := w.take(row[0])
	next := rest.and(row[1])
	switch name {
	case "Jump":
		return []ruleAim{{in.Arg, next}}, ok
	case "Handle":
		return []ruleAim{{at + 1, rest.begin(name, in.Arg)}}, ok
	case "Reraise", "Raise", "Assert":
		return nil, ok
	case "False", "Match":
		return []ruleAim{{at + 1, next}, {in.Arg, next}}, ok
	case "FalseKeep", "TrueKeep":
		return []ruleAim{{at + 1, rest}, {in.Arg, rest.and("V")}}, ok
	}
	return []ruleAim{{at + 1, next}}, ok
}

// waysRule tells whether all ways through a part can be gone.
func waysRule(p impl.Part) bool {
	_, ok := depthRule(p)
	return ok
}

// depthRule goes all ways through a part, of which the Args are right, and tells
// how many values there are at most.
func depthRule(p impl.Part) (int64, bool) {
	last := len(p.Instrs) - 1
	if last < 0 || !strings.Contains(" "+strings.Join(wayEnds, " ")+" ", " "+instrName(p.Instrs[last].Op)+" ") {
		return 0, false
	}
	met := make([]*ruleWay, len(p.Instrs))
	first := ruleWay{vals: map[int64]string{impl.FormNone: "", impl.FormGen: "I"}[p.Form]}
	if p.Form >= impl.FormList && p.Form <= impl.FormDict {
		first.vals = "CI"
	}
	met[0] = &first
	todo := []int64{0}
	for len(todo) > 0 {
		at := todo[0]
		todo = todo[1:]
		next, ok := ruleStep(p, at, *met[at])
		if !ok {
			return 0, false
		}
		for _, to := range next {
			if met[to.place] == nil {
				met[to.place] = &to.way
				todo = append(todo, to.place)
			}
			if *met[to.place] != to.way {
				return 0, false
			}
		}
	}
	most := 0
	for _, way := range met {
		if way != nil {
			most = max(most, len(way.vals))
		}
	}
	return int64(most), true
}

// turned is code with an instruction turned into another one, its Arg right for
// that.
func turned(r *rand.Rand, c impl.Code) impl.Code {
	out := changedCode(r, c)
	p := &out.Parts[r.Intn(len(out.Parts))]
	if len(p.Instrs) == 0 || r.Intn(3) == 0 {
		return out
	}
	i := r.Intn(len(p.Instrs))
	op := int64(1 + r.Intn(impl.IFrom))
	arg := int64(0)
	switch name := instrName(op); {
	case hasAim(op):
		arg = int64(r.Intn(len(p.Instrs)))
	case name == "Binary" || name == "Aug" || name == "Unary" || name == "Compare" || name == "Stmt":
		arg = 1 + r.Int63n(3)
	case name == "Raise" || name == "Finish" || name == "Join":
		arg = r.Int63n(3)
	case name == "Unpack":
		arg = 1 + r.Int63n(3) + 10000*r.Int63n(2)
	}
	p.Instrs[i] = impl.Instr{Op: op, Arg: arg}
	return out
}

// argsAreRight tells so of all but targets beyond the end.
func argsAreRight(c impl.Code) bool {
	for _, p := range c.Parts {
		for _, in := range p.Instrs {
			if hasAim(in.Op) && in.Arg >= int64(len(p.Instrs)) {
				return false
			}
			switch instrName(in.Op) {
			case "Const":
				if len(p.Consts) == 0 {
					return false
				}
			case "Load", "Store", "Unbind", "Key", "Attr", "SetAttr", "DelAttr", "Import", "From", "Format":
				if len(p.Words) == 0 {
					return false
				}
			case "Case":
				if len(p.Pats) == 0 {
					return false
				}
			case "Func", "Class", "Comp", "Gen":
				if in.Arg == 0 {
					return false
				}
			case "Yield", "YieldFrom":
				if !p.Gen {
					return false
				}
			}
		}
	}
	return true
}

func TestP12WaysByTheRules(t *testing.T) {
	t.Parallel()
	r := rand.New(rand.NewSource(13))
	good, bad := 0, 0
	check := func(c impl.Code) {
		want := argsAreRight(c)
		for _, p := range c.Parts {
			want = want && waysRule(p)
		}
		if got := impl.CodeOk(c); got != want {
			t.Fatalf("%s\n is %v, not %v", codeTold(c), got, want)
		}
		if want {
			good++
		} else {
			bad++
		}
	}
	for seed := range int64(100) {
		for _, src := range []string{foldProgram(seed), flowProgram(seed), drawnProgram(seed)} {
			tree, _ := impl.Parse(src)
			c, fault := impl.Compile(tree)
			if fault.Code != 0 {
				// Some are too long to be shown.
				continue
			}
			check(c)
			for range 15 {
				check(turned(r, c))
			}
		}
	}
	if good < 700 || bad < 1000 {
		t.Error(good, bad)
	}
}
