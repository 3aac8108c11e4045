package tests

import (
	"fmt"
	"math/rand"
	"slices"
	"strings"
	"testing"

	"loop.example/g00009/impl"
)

// machineRule does a function with blocks as chapter 14 says it, a second time. Its
// values are texts: of consts what they are, of exceptions their class's name.
type machineRule struct {
	part    impl.Part
	bits    []bool
	budget  int64
	ticks   int64
	quiet   int
	lines   []string
	size    int
	handled []string
	x       string
	vals    []string
	blocks  *ruleFrameBlock
}

// ruleFrameBlock is a block with that around it.
type ruleFrameBlock struct {
	kind   string
	at     int64
	aim    int64
	values int
	thing  string
	word   bool
	kept   ruleLeave
	around *ruleFrameBlock
}

// ruleLeave is what goes out of blocks: how is raise, return, break or continue.
type ruleLeave struct {
	how string
	val string
}

// ruleStop is a run's end ahead of its own.
type ruleStop struct{ code int64 }

// noRule is that of what the rule does not know: a jump has led a value to where
// another one was meant to be.
const noRule = -1

func (m *machineRule) tick(n int) {
	for range n {
		if m.ticks == m.budget {
			panic(ruleStop{impl.OutTicks})
		}
		m.ticks++
		m.quiet = 0
	}
}

func (m *machineRule) say(line string) {
	m.size += len(line) + 1
	if m.size > impl.MaxOut {
		panic(ruleStop{impl.OutLarge})
	}
	m.lines = append(m.lines, line)
}

// enter and exit are those of exitThings: the frame, its print, its if cost ticks,
// and its return or raise.
func (m *machineRule) enter(name string) ruleLeave {
	m.tick(2)
	m.say("in-" + name)
	m.tick(2)
	if name == "d" {
		return ruleLeave{"raise", "KeyError: enter"}
	}
	return ruleLeave{val: strings.ToUpper(name)}
}

func (m *machineRule) exit(name string, class string) ruleLeave {
	m.tick(2)
	class, _, _ = strings.Cut(class, ":")
	m.say("out-" + name + "-" + class)
	m.tick(2)
	if name == "c" {
		return ruleLeave{"raise", "KeyError: exit"}
	}
	return ruleLeave{val: fmt.Sprint(name == "b")}
}

func (m *machineRule) pop() string {
	v := m.vals[len(m.vals)-1]
	m.vals = m.vals[:len(m.vals)-1]
	return v
}

// leave goes out of blocks: the place at which it is stopped, or false when the
// frame is left, with what it is then.
func (m *machineRule) leave(l ruleLeave) (int64, ruleLeave, bool) {
	b := m.blocks
	if b == nil {
		return 0, l, false
	}
	m.blocks = b.around
	switch {
	case b.kind == "Loop" && l.how == "break", b.kind == "Try" && l.how == "raise", b.kind == "Fin":
		m.vals = m.vals[:b.values]
		if b.kind == "Try" {
			m.vals = append(m.vals, l.val)
		}
		if b.kind == "Fin" {
			m.blocks = &ruleFrameBlock{kind: "Pending", kept: l, around: b.around}
		}
		return b.aim, l, true
	case b.kind == "Loop" && l.how == "continue":
		m.vals = m.vals[:b.values]
		m.blocks = b
		return b.at + 1, l, true
	case b.kind == "Handle":
		m.endHandle(b)
	case b.kind == "With":
		class := "None"
		if l.how == "raise" {
			class = l.val
		}
		answer := m.exit(b.thing, class)
		if answer.how == "raise" {
			return m.leave(answer)
		}
		if l.how == "raise" && answer.val == "true" {
			m.vals = m.vals[:b.values]
			return b.aim, l, true
		}
	}
	return m.leave(l)
}

func (m *machineRule) endHandle(b *ruleFrameBlock) {
	m.handled = m.handled[:len(m.handled)-1]
	if b.word {
		m.x = ""
	}
}

// run is what the function answers, or raises.
func (m *machineRule) run() (out ruleLeave, code int64) {
	defer func() {
		if x := recover(); x != nil {
			code = x.(ruleStop).code
		}
	}()
	at := int64(0)
	for {
		if m.quiet == impl.MaxSteps {
			panic(ruleStop{impl.OutSteps})
		}
		m.quiet++
		l, next := m.step(at)
		at = next
		if l.how != "" {
			place, end, stopped := m.leave(l)
			if !stopped {
				return end, 0
			}
			at = place
		}
	}
}

func (m *machineRule) push(v string) { m.vals = append(m.vals, v) }

// step does one instruction: what goes out of blocks by it, and the next place.
func (m *machineRule) step(at int64) (ruleLeave, int64) {
	in := m.part.Instrs[at]
	next := at + 1
	raises := func(what string) (ruleLeave, int64) { return ruleLeave{"raise", what}, 0 }
	begin := func(b ruleFrameBlock) {
		b.at, b.aim, b.values, b.around = at, in.Arg, len(m.vals), m.blocks
		m.blocks = &b
	}
	switch name := instrName(in.Op); name {
	case "Const":
		m.push(constText(m.part.Consts[in.Arg]))
	case "Load":
		word := m.part.Words[in.Arg]
		if word == "x" && m.x == "" {
			return raises("NameError")
		}
		if word == "x" {
			word, _, _ = strings.Cut(m.x, ":")
		}
		m.push(word)
	case "Attr":
		if m.pop() != "bits" {
			return raises("AttributeError")
		}
		m.push("bits.pop")
	case "Args":
		m.push("")
	case "Add":
		arg := m.pop()
		m.vals[len(m.vals)-1] += arg
	case "Call":
		arg, what := m.pop(), m.pop()
		switch {
		case what == "print":
			m.say(arg)
			m.push("None")
		case what != "bits.pop" || arg != "":
			panic(ruleStop{noRule})
		case len(m.bits) == 0:
			return raises("IndexError")
		default:
			m.push(fmt.Sprint(m.bits[len(m.bits)-1]))
			m.bits = m.bits[:len(m.bits)-1]
		}
	case "Pop":
		m.pop()
	case "Turn":
		m.tick(1)
	case "Jump":
		next = in.Arg
	case "False":
		switch v := m.pop(); v {
		case "false":
			next = in.Arg
		case "true":
		default:
			panic(ruleStop{noRule})
		}
	case "Loop", "Try", "Fin":
		begin(ruleFrameBlock{kind: name})
	case "With":
		thing := m.pop()
		if !slices.Contains([]string{"a", "b", "c", "d"}, thing) {
			panic(ruleStop{noRule})
		}
		got := m.enter(thing)
		if got.how != "" {
			return got, 0
		}
		begin(ruleFrameBlock{kind: name, thing: thing})
		m.push(got.val)
	case "Handle":
		m.handled = append(m.handled, m.pop())
		begin(ruleFrameBlock{kind: name, word: in.Arg > 0})
		if in.Arg > 0 {
			m.x = m.handled[len(m.handled)-1]
		}
	case "BlockEnd", "HandleEnd", "Again":
		b := m.blocks
		m.blocks = b.around
		switch b.kind {
		case "Fin":
			m.blocks = &ruleFrameBlock{kind: "Pending", around: b.around}
		case "Handle":
			m.endHandle(b)
		case "Pending":
			return b.kept, next
		case "With":
			if answer := m.exit(b.thing, "None"); answer.how != "" {
				return answer, 0
			}
		}
	case "Match":
		class := m.pop()
		if !isClass(class) {
			panic(ruleStop{noRule})
		}
		if have, _, _ := strings.Cut(m.vals[len(m.vals)-1], ":"); !isBelow(have, class) {
			next = in.Arg
		}
	case "Reraise":
		return raises(m.pop())
	case "Return":
		val := m.pop()
		if strings.Trim(val, "0123456789") != "" && val != "None" {
			panic(ruleStop{noRule})
		}
		return ruleLeave{"return", val}, 0
	case "Break":
		return ruleLeave{"break", ""}, 0
	case "Continue":
		return ruleLeave{"continue", ""}, 0
	case "Raise":
		switch {
		case in.Arg == 1:
			class := m.pop()
			if !isClass(class) {
				panic(ruleStop{noRule})
			}
			return raises(class)
		case len(m.handled) == 0:
			return raises("RuntimeError")
		}
		return raises(m.handled[len(m.handled)-1])
	default:
		panic("no rule for " + name)
	}
	return ruleLeave{}, next
}

func isClass(word string) bool {
	return strings.HasSuffix(word, "Error") || word == "Exception"
}

func isBelow(class string, up string) bool {
	return class == up || up == "Exception" || up == "LookupError" && (class == "KeyError" || class == "IndexError")
}

func constText(c impl.Const) string {
	if c.Kind == impl.ConstNone {
		return "None"
	}
	return c.Text
}

// blockWriter writes steps with blocks in blocks at random.
type blockWriter struct {
	r     *rand.Rand
	count int
}

func (w *blockWriter) label() string {
	w.count++
	return fmt.Sprint("l", w.count)
}

func (w *blockWriter) say() string { return fmt.Sprintf(" say=%d ", w.r.Intn(100)) }

func (w *blockWriter) class() string {
	return []string{"ValueError", "KeyError", "LookupError", "IndexError", "Exception"}[w.r.Intn(5)]
}

// body is a row of steps; those of a loop may break it.
func (w *blockWriter) body(deep int, inLoop bool) string {
	out := ""
	for range 1 + w.r.Intn(3) {
		out += w.one(deep, inLoop)
	}
	return out
}

func (w *blockWriter) one(deep int, inLoop bool) string {
	if deep == 0 {
		return w.small(inLoop)
	}
	switch w.r.Intn(9) {
	case 0:
		z := w.label()
		return fmt.Sprintf(" Loop>%s %s %s BlockEnd %s: ", z, w.body(deep-1, true), w.say(), z)
	case 1:
		t, x, z := w.label(), w.label(), w.label()
		return fmt.Sprintf(" Loop>%s %s: Turn %s False>%s %s Jump>%s %s: BlockEnd %s %s: ", z, t, coin, x, w.body(deep-1, true), t, x, w.say(), z)
	case 2, 3:
		return w.try(deep, inLoop)
	case 4, 5:
		f := w.label()
		return fmt.Sprintf(" Fin>%s %s BlockEnd %s: %s Again ", f, w.body(deep-1, inLoop), f, w.body(deep-1, inLoop))
	case 6, 7:
		z := w.label()
		return fmt.Sprintf(" Load=%s With>%s Pop %s BlockEnd %s: ", string("aabbcd"[w.r.Intn(6)]), z, w.body(deep-1, inLoop), z)
	}
	x, y := w.label(), w.label()
	return fmt.Sprintf(" %s False>%s %s Jump>%s %s: %s %s: ", coin, x, w.body(deep-1, inLoop), y, x, w.body(deep-1, inLoop), y)
}

const coin = "Load=bits Attr=pop Args Call"

func (w *blockWriter) try(deep int, inLoop bool) string {
	h, y := w.label(), w.label()
	out := fmt.Sprintf(" Try>%s %s BlockEnd %s Jump>%s %s: ", h, w.body(deep-1, inLoop), w.say(), y, h)
	for range w.r.Intn(3) {
		n := w.label()
		word := []string{"0", "x"}[w.r.Intn(2)]
		shows := ""
		if word == "x" && w.r.Intn(2) == 0 {
			shows = " show=y "
		}
		out += fmt.Sprintf(" Load=%s Match>%s Handle=%s %s %s HandleEnd=%s Jump>%s %s: ", w.class(), n, word, strings.ReplaceAll(shows, "y", "x Pop"), w.body(deep-1, inLoop), word, y, n)
	}
	return strings.ReplaceAll(out, " show=x Pop ", " ") + fmt.Sprintf(" Reraise %s: ", y)
}

func (w *blockWriter) small(inLoop bool) string {
	skip := w.label()
	does := w.say()
	switch w.r.Intn(8) {
	case 0:
		does = " Load=" + []string{"ValueError", "KeyError"}[w.r.Intn(2)] + " Raise=1 "
	case 1:
		does = " Raise=0 "
	case 2:
		does = fmt.Sprintf(" Const=%d Return ", w.r.Intn(100))
	case 3, 4:
		if inLoop {
			does = []string{" Break ", " Continue "}[w.r.Intn(2)]
		}
	case 5:
		does = " Load=x Pop "
	default:
		return does
	}
	if w.r.Intn(3) == 0 && !strings.Contains(does, "say") {
		// Sometimes it is done in every case; what follows is for jumps.
		return does + skip + ": " + w.say()
	}
	return fmt.Sprintf(" %s False>%s %s %s: ", coin, skip, does, skip)
}

// turnedBlocks is the function with a few instructions changed: other targets,
// other ways out, one taken out.
func turnedBlocks(r *rand.Rand, c impl.Code) impl.Code {
	out := copyCode(c)
	p := &out.Parts[1]
	for range 1 + r.Intn(2) {
		i := r.Intn(len(p.Instrs))
		in := &p.Instrs[i]
		for slices.Contains([]string{"Load", "Attr", "Args", "Add", "Call", "Const"}, instrName(in.Op)) {
			i = r.Intn(len(p.Instrs))
			in = &p.Instrs[i]
		}
		switch {
		case hasAim(in.Op) && r.Intn(2) == 0:
			in.Arg = r.Int63n(int64(len(p.Instrs)))
		case r.Intn(3) == 0:
			*in = impl.Instr{Op: impl.IJump, Arg: r.Int63n(int64(len(p.Instrs)))}
		case r.Intn(2) == 0:
			ways := []int64{impl.IBreak, impl.IContinue, impl.IRaise, impl.IAgain, impl.IBlockEnd, impl.ITurn, impl.IReraise}
			*in = impl.Instr{Op: ways[r.Intn(len(ways))]}
		default:
			begins := []int64{impl.ILoop, impl.ITry, impl.IFin}
			*in = impl.Instr{Op: begins[r.Intn(3)], Arg: r.Int63n(int64(len(p.Instrs)))}
		}
	}
	return out
}

func TestP14MachineByTheRules(t *testing.T) {
	plain, changed := make([]int, pieces), make([]int, pieces)
	codes := make([]map[int64]int, pieces)
	for i := range codes {
		codes[i] = map[int64]int{}
	}
	inPieces(t, 4000, func(t *testing.T, i int) {
		r := rand.New(rand.NewSource(int64(i)))
		w := &blockWriter{r: r}
		text := w.body(1+r.Intn(3), false)
		bits, words := []bool{}, []string{}
		for range r.Intn(30) {
			bit := r.Intn(2) == 0
			bits = append(bits, bit)
			words = append(words, map[bool]string{true: "True", false: "False"}[bit])
		}
		budget := []int64{3000, 3000, r.Int63n(60)}[r.Intn(3)] + 30
		c := around(t, exitThings+"bits = ["+strings.Join(words, ", ")+"]\n", codeBy(inFunction(text+" say=1000 end")))
		if !impl.CodeOk(c) {
			t.Fatalf("%s\n can't be run", text)
		}
		plain[i%pieces]++
		codes[i%pieces][wantByBlocks(t, text, c, bits, budget)]++
		for range 12 {
			d := turnedBlocks(r, c)
			if impl.CodeOk(d) {
				changed[i%pieces]++
				codes[i%pieces][wantByBlocks(t, text, d, bits, budget)]++
			}
		}
	})
	t.Cleanup(func() {
		all := map[int64]int{}
		for _, one := range codes {
			for code, n := range one {
				all[code] += n
			}
		}
		n := 0
		for _, x := range changed {
			n += x
		}
		if n < 2000 || all[impl.OutEnd] < 500 || all[impl.OutRaised] < 500 || all[impl.OutTicks] < 30 || all[impl.OutSteps] < 10 {
			t.Error(n, all)
		}
	})
}

// wantByBlocks runs code, and its function by the rule. Its module is known: it
// costs what it costs with a function that does nothing.
func wantByBlocks(t *testing.T, text string, c impl.Code, bits []bool, budget int64) int64 {
	t.Helper()
	empty := copyCode(c)
	empty.Parts[1] = codeBy(inFunction("end")).Parts[1]
	before := impl.RunCode(empty, impl.MaxTicks).Ticks
	m := &machineRule{part: c.Parts[1], bits: slices.Clone(bits), budget: budget}
	end, code := m.run()
	if code == noRule {
		return code
	}
	want := impl.Out{Code: code, Ticks: before + m.ticks}
	switch {
	case code == impl.OutTicks:
		want.Ticks = before + budget
	case code == impl.OutSteps, code == impl.OutLarge:
	case end.how == "raise":
		want.Code, want.Exc = impl.OutRaised, end.val
		want.Trace = []impl.Spot{{Name: "f", Line: 1}}
	default:
		m.say(end.val)
	}
	want.Text = strings.Join(append(m.lines, ""), "\n")
	o := impl.RunCode(c, before+budget)
	if want.Code == impl.OutRaised && len(o.Trace) > 0 {
		// Frames of __enter__ and __exit__ are not the rule's.
		want.Trace = o.Trace
	}
	if !sameOut(o, want) {
		t.Fatalf("%s\n%s\n tells %s\n not %s", text, listing(c.Parts[1]), outTold(o), outTold(want))
	}
	return o.Code
}
