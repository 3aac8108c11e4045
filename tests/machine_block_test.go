package tests

import (
	"slices"
	"strings"
	"testing"

	"loop.example/g00009/impl"
)

// exitThings are things for IWith: a's __exit__ answers False, b's True, c's raises,
// and d's __enter__ does; e has no __exit__.
const exitThings = `
class M:
  def __init__(self, name, eats=False): self.name, self.eats = name, eats
  def __enter__(self):
    print('in-' + self.name)
    if self.name == 'd': raise KeyError('enter')
    return self.name.upper()
  def __exit__(self, c, e, t):
    print('out-' + self.name + '-' + (c.__name__ if c else 'None'))
    if self.name == 'c': raise KeyError('exit')
    return self.eats
a, b, c, d = M('a'), M('b', True), M('c'), M('d')
class N:
  def __enter__(self): print('in-e')
e = N()
`

// inFunction is code that prints what a function with these steps answers.
func inFunction(steps string) string {
	return "Args Func=1 Store=f do=f tell end || def f | " + steps
}

// bodyRuns are steps of a function, what is printed (and last what the function
// answers), and what is raised.
func wantBodies(t *testing.T, list []codeRun) {
	t.Helper()
	for _, row := range list {
		wantCodeRun(t, row.code, around(t, exitThings, codeBy(inFunction(row.code))), row.text, row.exc)
	}
}

const boom = " Load=ValueError Raise=1 "

func TestP14MachineLoops(t *testing.T) {
	wantBodies(t, []codeRun{
		{"Loop>z say=1 Break z: say=2 end", "1 2 None", ""},
		{"Loop>z say=1 BlockEnd say=3 z: say=2 end", "1 3 2 None", ""},
		{"Loop>z say=1 Const=5 Return z: say=2 end", "1 5", ""},
		{"Loop>z say=1" + boom + "z: say=2 end", "1", "ValueError"},
		// IContinue goes to the place behind the ILoop, the block staying.
		{"Const='ab' Iter Loop>z t: For>x tell Continue x: BlockEnd say='else' z: Pop end", "a b else None", ""},
		{"Const='ab' Iter say='once' Loop>z say='turn' For>x tell Continue x: BlockEnd say='else' z: Pop end", "once turn a turn b turn else None", ""},
		// Values that are above those at its beginning go.
		{"Const=7 Loop>z Const=8 Const=9 Break z: tell end", "7 None", ""},
		{"Const=7 Const='ab' Iter Loop>z For>x Dup Dup Continue x: BlockEnd z: Pop tell end", "7 None", ""},
		// The innermost one stops it.
		{"Loop>z Loop>y say=1 Break y: say=2 Break z: say=3 end", "1 2 3 None", ""},
		{"Const='ab' Iter Loop>z For>x Pop Loop>y Break y: say=1 Continue x: BlockEnd z: Pop end", "1 1 None", ""},
		// Out of a loop without an end of its block.
		{"Loop>z say=1 Jump>o z: say=2 end o: say=3 end", "1 3 None", ""},
		{"Loop>z say=1 Jump>o z: say=2 end o: say=3 Break", "1 3 2 None", ""},
		{"Loop>z Loop>y Jump>o y: say='y' end z: say='z' end o: say=3 Break", "3 y None", ""},
		{"Loop>z Loop>y Jump>o y: say='y' Break z: say='z' end o: say=3 Break", "3 y z None", ""},
		// Another ILoop with the same target: IContinue goes behind the one that began.
		{"Const='ab' Iter For>q Pop Const=1 False>r Loop>z say='one' Jump>b r: Loop>z say='two' b: For>x tell Continue x: BlockEnd z: Pop end q: Pop end", "one b one None", ""},
	})
}

func TestP14MachineHandlers(t *testing.T) {
	wantBodies(t, []codeRun{
		{"Try>h say=1 BlockEnd say=2 end h: say=3 Reraise", "1 2 None", ""},
		{"Try>h say=1" + boom + "h: Pop say=3 end", "1 3 None", ""},
		{"Try>h say=1" + boom + "h: say=3 Reraise", "1 3", "ValueError"},
		{"Const=7 Try>h Const=8 Const=9" + boom + "h: Pop tell end", "7 None", ""},
		{"Try>h Const=5 Return h: Pop say=3 end", "5", ""},
		{"Loop>z Try>h Break h: Pop say=3 Break z: say=4 end", "4 None", ""},
		{"Try>h Try>g" + boom + "g: Pop say=1 Load=KeyError Raise=1 h: Pop say=2 end", "1 2 None", ""},
		{"Try>h" + boom + "h: Load=KeyError Match>n Pop say=1 end n: Load=ValueError Match>k Pop say=2 end k: say=3 Reraise", "2 None", ""},
		{"Try>h" + boom + "h: Load=KeyError Match>n Pop say=1 end n: Load=TypeError Match>k Pop say=2 end k: say=3 Reraise", "3", "ValueError"},
		{"Try>h" + boom + "h: Const=5 Match>n Pop say=1 end n: say=3 Reraise", "", "TypeError"},
		{"Try>h" + boom + "h: Args Load=KeyError Add Load=ValueError Add Const=5 Add Finish=0 Match>n Pop say=1 end n: say=3 Reraise", "1 None", ""},
		{"Try>h" + boom + "h: Args Load=KeyError Add Const=5 Add Load=ValueError Add Finish=0 Match>n Pop say=1 end n: say=3 Reraise", "", "TypeError"},
		// A handler's block: the name is bound, and unbound on each way out.
		{"Try>h" + boom + "h: Handle=x Load=repr Load=x Deco tell HandleEnd=x Try>g show=x BlockEnd end g: Pop say='unbound' end", "ValueError() unbound None", ""},
		{"Try>h" + boom + "h: Handle=x Load=repr Load=x Deco Return", "ValueError()", ""},
		{"Try>h" + boom + "h: Handle=x Unbind=x HandleEnd=x say=1 end", "1 None", ""},
		{"Loop>z Try>h" + boom + "h: Handle=x Break z: show=x end", "", "NameError"},
		{"Const='ab' Iter Loop>z For>y Pop Try>h" + boom + "h: Handle=x Continue y: BlockEnd z: Pop show=x end", "", "NameError"},
		{"Try>g Try>h" + boom + "h: Handle=x Load=KeyError Raise=1 g: Pop show=x end", "", "NameError"},
		{"Try>g Try>h" + boom + "h: Handle=x Load=KeyError Raise=1 g: Handle=y Load=y Attr=__context__ Store=z Load=repr Load=z Deco tell end", "ValueError() None", ""},
		{"Try>g Try>h" + boom + "h: Handle=x HandleEnd=x Load=KeyError Raise=1 g: Handle=y Load=y Attr=__context__ tell end", "None None", ""},
		{"Fin>f Try>h" + boom + "h: Handle=x Const=5 Return f: Try>g show=x BlockEnd Again end g: Pop say='unbound' Again end", "unbound 5", ""},
		// What is being handled, and is no more.
		{"Try>h" + boom + "h: Handle=0 Raise=0", "", "ValueError"},
		{"Raise=0", "", "RuntimeError"},
		{"Try>h" + boom + "h: Handle=0 HandleEnd=0 Raise=0", "", "RuntimeError"},
		{"Try>h" + boom + "h: Pop Raise=0", "", "RuntimeError"},
		{"Loop>z Try>h" + boom + "h: Handle=0 Break z: Raise=0", "", "RuntimeError"},
		{"Try>g Try>h" + boom + "h: Handle=0 Raise=0 g: Pop Raise=0", "", "RuntimeError"},
		{"Try>h" + boom + "h: Handle=0 Try>g Load=KeyError Raise=1 g: Handle=0 Raise=0", "", "KeyError"},
		{"Try>h" + boom + "h: Handle=0 Try>g Load=KeyError Raise=1 g: Handle=0 HandleEnd=0 Raise=0", "", "ValueError"},
		{"Try>h" + boom + "h: Handle=0 Try>g Raise=0 g: Pop say=1 Raise=0", "1", "ValueError"},
		// Values above a handler's beginning stay when its block ends.
		{"Try>h" + boom + "h: Handle=0 Const=4 HandleEnd=0 Return", "4", ""},
		// A jump out of a handler's block.
		{"Try>h" + boom + "h: Handle=0 Jump>o say=1 end o: Raise=0", "", "ValueError"},
		{"Try>h" + boom + "h: Handle=x Load=len Args Load=x Attr=args Add Call Store=n HandleEnd=x Load=n Return", "0", ""},
	})
	// The empty word is a word.
	c := codeBy(inFunction("Try>h" + boom + "h: Handle=x Load=repr Load=x Deco tell HandleEnd=x Try>g show=x BlockEnd end g: Pop say='unbound' end"))
	f := &c.Parts[1]
	f.Words[slices.Index(f.Words, "x")] = ""
	wantCodeRun(t, "the empty word", c, "ValueError() unbound None", "")
}

// What no handler takes goes on as it is: it gets no context from what is being
// handled where it passes.
func TestP14MachineReraises(t *testing.T) {
	src := "def g():\n  try: raise ValueError\n  except ValueError:\n    yield 1\n    raise\ni = g()\nnext(i)\ntry:\n  try: 1 / 0\n  except ZeroDivisionError:\n    try: next(i)\n    except KeyError: pass\nexcept ValueError as e: print(e.__context__)\n"
	if o := meant(src); o.Text != "None\n" {
		t.Error(outTold(o))
	}
}

func TestP14MachineFinally(t *testing.T) {
	wantBodies(t, []codeRun{
		// IAgain with each thing that is kept.
		{"Fin>f say=1 BlockEnd f: say=2 Again say=3 end", "1 2 3 None", ""},
		{"Fin>f say=1 Const=5 Return f: say=2 Again say=3 end", "1 2 5", ""},
		{"Fin>f say=1" + boom + "f: say=2 Again say=3 end", "1 2", "ValueError"},
		{"Loop>z Fin>f say=1 Break f: say=2 Again say=3 BlockEnd say=4 z: say=5 end", "1 2 5 None", ""},
		{"Const='ab' Iter Loop>z For>x Pop Fin>f say=1 Continue f: say=2 Again say=3 end x: BlockEnd say=4 z: Pop end", "1 2 1 2 4 None", ""},
		// It may come by a jump.
		{"Fin>f say=1 BlockEnd Jump>g f: say=2 g: say=3 Again say=4 end", "1 3 4 None", ""},
		{"Fin>f say=1 Const=5 Return f: say=2 Jump>g g: say=3 Again say=4 end", "1 2 3 5", ""},
		// A finally's own way out in place of what was pending.
		{"Fin>f say=1 Const=5 Return f: say=2 Const=6 Return", "1 2 6", ""},
		{"Fin>f say=1" + boom + "f: say=2 Const=6 Return", "1 2 6", ""},
		{"Fin>f say=1 Const=5 Return f: Load=KeyError Raise=1", "1", "KeyError"},
		{"Fin>f say=1" + boom + "f: Load=KeyError Raise=1", "1", "KeyError"},
		{"Loop>z Fin>f say=1" + boom + "f: Break z: say=5 end", "1 5 None", ""},
		{"Loop>z Fin>f say=1 Const=5 Return f: Break z: say=5 end", "1 5 None", ""},
		{"Const='ab' Iter Loop>z For>x Pop Fin>f say=1 Const=5 Return f: Continue x: BlockEnd say=4 z: Pop end", "1 1 4 None", ""},
		{"Loop>z Fin>f say=1 Break f: Const=6 Return z: say=5 end", "1 6", ""},
		// A pending block that is left by a jump ends with the frame.
		{"Fin>f say=1" + boom + "f: say=2 Jump>o say=3 end o: say=4 end", "1 2 4 None", ""},
		{"Fin>f say=1" + boom + "f: say=2 Jump>o say=3 end o: say=4 Again end", "1 2 4", "ValueError"},
		// One in another.
		{"Fin>f Fin>g say=1 Const=5 Return g: say=2 Again say=3 end f: say=4 Again say=6 end", "1 2 4 5", ""},
		{"Fin>f Fin>g say=1 Const=5 Return g: say=2 Const=7 Return f: say=4 Again say=6 end", "1 2 4 7", ""},
		{"Fin>f say=1 Const=5 Return f: Fin>g say=2 BlockEnd g: say=3 Again say=4 Again say=6 end", "1 2 3 4 5", ""},
		{"Fin>f say=1 Const=5 Return f: Fin>g say=2" + boom + "g: say=3 Again say=4 Again say=6 end", "1 2 3", "ValueError"},
		{"Fin>f say=1 Const=5 Return f: Try>h say=2" + boom + "h: Pop say=3 Again say=6 end", "1 2 3 5", ""},
		{"Fin>f say=1" + boom + "f: Loop>z Break z: say=3 Again say=6 end", "1 3", "ValueError"},
		// Values.
		{"Const=7 Fin>f Const=8 Const=9" + boom + "f: say=2 Const=1 Const=1 Again end", "2", "ValueError"},
		{"Const=7 Fin>f BlockEnd f: Const=8 Again tell tell end", "8 7 None", ""},
		{"Const=7 Fin>f Const=8 Const=5 Return f: Const=8 Again tell tell end", "5", ""},
		{"Loop>z Const=7 Fin>f Const=8 Break f: Const=8 Again say=1 end z: say=2 end", "2 None", ""},
		// An exception that is kept is not being handled.
		{"Fin>f say=1" + boom + "f: Raise=0", "1", "RuntimeError"},
		{"Try>h Fin>f" + boom + "f: Load=KeyError Raise=1 h: Handle=x Load=x Attr=__context__ tell HandleEnd=x end", "None None", ""},
		// It is kept as it is, and can be caught behind.
		{"Try>h Fin>f Load=ValueError Args Const=3 Add Call Raise=1 f: say=2 Again end h: Handle=x Load=x Attr=args tell HandleEnd=x end", "2 (3,) None", ""},
	})
}

func TestP14MachineWith(t *testing.T) {
	wantBodies(t, []codeRun{
		{"Load=a With>z tell BlockEnd z: say=1 end", "in-a A out-a-None 1 None", ""},
		{"Load=a With>z tell BlockEnd say=2 z: say=1 end", "in-a A out-a-None 2 1 None", ""},
		{"Load=a With>z Pop" + boom + "z: say=1 end", "in-a out-a-ValueError", "ValueError"},
		{"Load=b With>z Pop" + boom + "z: say=1 end", "in-b out-b-ValueError 1 None", ""},
		{"Load=c With>z Pop" + boom + "z: say=1 end", "in-c out-c-ValueError", "KeyError: exit"},
		{"Load=c With>z Pop BlockEnd z: say=1 end", "in-c out-c-None", "KeyError: exit"},
		{"Load=c With>z Pop Const=5 Return z: say=1 end", "in-c out-c-None", "KeyError: exit"},
		{"Load=b With>z Pop Const=5 Return z: say=1 end", "in-b out-b-None 5", ""},
		{"Loop>y Load=b With>z Pop Break z: say=1 end y: say=2 end", "in-b out-b-None 2 None", ""},
		{"Const='xy' Iter Loop>q For>p Pop Load=b With>z Pop Continue z: say=1 end p: BlockEnd q: Pop end", "in-b out-b-None in-b out-b-None None", ""},
		{"Load=d With>z Pop BlockEnd z: say=1 end", "in-d", "KeyError: enter"},
		{"Load=e With>z Pop BlockEnd z: say=1 end", "", "AttributeError"},
		{"Const=5 With>z Pop BlockEnd z: say=1 end", "", "AttributeError"},
		{"Load=d Attr=name With>z Pop BlockEnd z: say=1 end", "", "AttributeError"},
		// What __enter__ raises does not come to __exit__.
		{"Try>h Load=d With>z Pop BlockEnd z: say=1 end h: Pop say=2 end", "in-d 2 None", ""},
		{"Load=b With>y Pop Load=d With>z Pop BlockEnd z: say=1 end y: say=2 end", "in-b in-d out-b-KeyError 2 None", ""},
		// Values.
		{"Const=7 Load=b With>z Const=8 Const=9" + boom + "z: tell end", "in-b out-b-ValueError 7 None", ""},
		{"Load=b With>z Return z: say=1 end", "in-b out-b-None B", ""},
		// One in another.
		{"Load=a With>z Pop Load=b With>y Pop" + boom + "y: say=1 BlockEnd z: say=2 end", "in-a in-b out-b-ValueError 1 out-a-None 2 None", ""},
		{"Load=b With>z Pop Load=a With>y Pop" + boom + "y: say=1 BlockEnd z: say=2 end", "in-b in-a out-a-ValueError out-b-ValueError 2 None", ""},
		{"Load=b With>z Pop Load=c With>y Pop Const=5 Return y: say=1 BlockEnd z: say=2 end", "in-b in-c out-c-None out-b-KeyError 2 None", ""},
		{"Fin>f Load=a With>z Pop Const=5 Return z: say=1 BlockEnd f: say=2 Again end", "in-a out-a-None 2 5", ""},
		{"Load=a With>z Pop Fin>f Const=5 Return f: say=2 Again BlockEnd z: say=1 end", "in-a 2 out-a-None 5", ""},
		{"Load=b With>z Pop Fin>f" + boom + "f: say=2 Again BlockEnd z: say=1 end", "in-b 2 out-b-ValueError 1 None", ""},
		// A block that is left by a jump: __exit__ is called when the frame is left.
		{"Load=a With>z Pop Jump>o z: say=1 end o: say=2 end", "in-a 2 out-a-None None", ""},
		{"Load=b With>z Pop Jump>o z: say=1 end o: say=2" + boom, "in-b 2 out-b-ValueError 1 None", ""},
	})
}

// steps with which a part is left, and how, in a generator.
func TestP14MachineGenerators(t *testing.T) {
	for _, row := range []codeRun{
		{"Const=1 Yield Pop Const=2 Yield Pop Const=3 Return", "[1, 2]", ""},
		{"Const=5 Return", "[]", ""},
		{"Fin>f Const=1 Yield Pop BlockEnd f: say='fin' Again end", "fin [1]", ""},
		{"Loop>z Const=1 Yield Pop Break z: Const=2 Yield Pop end", "[1, 2]", ""},
		{"Try>h Const=1 Yield Pop" + boom + "h: Handle=x Const=2 Yield Pop Load=repr Load=x Deco Yield Pop end", "[1, 2, 'ValueError()']", ""},
		{"Const='ab' Iter Const=None YieldFrom tell end", "None ['a', 'b']", ""},
		{"Const=7 Const='ab' Iter Const=None YieldFrom Pop Yield Pop end", "['a', 'b', 7]", ""},
		{"Load=StopIteration Raise=1", "", "RuntimeError"},
	} {
		wantCodeRun(t, row.code, codeBy("Args Func=1 Store=g Load=list do=g Deco tell end || gen g | "+row.code), row.text, row.exc)
	}
	wantTold(t, []codeRun{
		// What is sent, and what an IYieldFrom is sent first.
		{"Args Func=1 Store=g do=g Store=i Load=next Load=i Deco tell Load=i Attr=send Args Const=7 Add Call tell end || gen g | Const=1 Yield tell Const=2 Yield Pop end", "1 7 2", ""},
		{"Args Func=1 Store=g Args Func=2 Store=s do=s Store=i Load=next Load=i Deco tell Load=list do=g Deco tell end || gen g | Load=i Iter Const=9 YieldFrom Return || gen s | Const=1 Yield tell Const=2 Yield Pop end", "1 9 [2]", ""},
		{"Args Func=1 Store=g Args Func=2 Store=s Load=list do=g Deco tell end || gen g | do=s Iter Const=9 YieldFrom Return || gen s | end", "", "TypeError"},
		{"Args Func=1 Store=g Load=list do=g Deco tell end || gen g | Const='ab' Iter Const=9 YieldFrom Return", "", "AttributeError"},
		// What is thrown, and close.
		{"Args Func=1 Store=g do=g Store=i Load=next Load=i Deco Pop Load=i Attr=throw Args Load=KeyError Add Call tell end || gen g | Try>h Const=1 Yield Pop BlockEnd end h: Load=KeyError Match>n Handle=x Const=2 Yield Pop end n: Reraise", "2", ""},
		{"Args Func=1 Store=g do=g Store=i Load=next Load=i Deco Pop Load=i Attr=close Args Call tell end || gen g | Fin>f Const=1 Yield Pop BlockEnd f: say='fin' Again end", "fin None", ""},
		{"Args Func=1 Store=g do=g Store=i Load=next Load=i Deco Pop Load=i Attr=close Args Call tell end || gen g | Loop>z Fin>f Const=1 Yield Pop BlockEnd f: Break z: say='end' end", "end None", ""},
		{"Args Func=1 Store=g do=g Store=i Load=next Load=i Deco Pop Load=i Attr=close Args Call tell end || gen g | Try>h Const=1 Yield Pop BlockEnd end h: Pop Const=2 Yield Pop end", "", "RuntimeError"},
		// A generator without a yield, a comprehension's answers.
		{"Args Func=1 Store=g Load=next do=g Deco tell end || gen g | Const=5 Return", "", "StopIteration: 5"},
		{"Const='ab' Iter Gen=1 Store=g Load=next Load=g Deco tell end || lazy g | Pop Const=5 Return", "", "StopIteration: 5"},
		{"Const='ab' Iter Gen=1 Store=g Load=list Load=g Deco tell end || lazy g | t: For>x Yield Pop Jump>t x: Pop end", "['a', 'b']", ""},
		{"Const='ab' Iter Comp=1 tell end || list c | t: For>x Collect Jump>t x: Pop Return", "['a', 'b']", ""},
		{"Const='aba' Iter Comp=1 tell end || set c | t: For>x Collect Jump>t x: Pop Return", "{'a', 'b'}", ""},
		{"Const='aba' Iter Comp=1 tell end || dict c | Const=0 Store=n t: For>x Load=n Const=1 Binary=6 Dup Store=n Collect Jump>t x: Pop Return", "{'a': 3, 'b': 2}", ""},
		{"Const='ab' Iter Comp=1 tell end || list c | Const=5 Return", "5", ""},
		{"Const='ab' Iter Comp=1 tell end || list c | Fin>f Const=5 Return f: Const=6 Collect Again Pop Return", "5", ""},
		{"Const='ab' Iter Comp=1 tell end || list c | Const=5 Collect Fin>f Const=6 Collect BlockEnd f: Const=7 Collect Again Pop Return", "[5, 6, 7]", ""},
		{"Const='ab' Iter Comp=1 tell end || list c | Const=5 Collect Try>h" + boom + "h: Pop Const=6 Collect Pop Return", "[5, 6]", ""},
		{"Const='ab' Iter Comp=1 tell end || set c | Args Finish=1 Collect Pop Return", "", "TypeError"},
	})
}

func TestP15MachineTrace(t *testing.T) {
	c := codeBy("Stmt=3 Args Func=1 Store=f Stmt=4 go=f end || def f | Stmt=7 Try>h go=g BlockEnd end h: Stmt=8 Reraise || def g | Stmt=9 Fin>f Load=ValueError Raise=1 f: Stmt=10 Again end")
	// g is made by the module too.
	c.Parts[0] = codeBy("Stmt=3 Args Func=1 Store=f Args Func=2 Store=g Stmt=4 go=f end").Parts[0]
	o := wantCodeRun(t, "a trace", c, "", "ValueError")
	if want := []impl.Spot{{Name: "g", Line: 10}, {Name: "f", Line: 8}, {Name: "<module>", Line: 4}}; !slices.Equal(o.Trace, want) {
		t.Error(o.Trace)
	}
	c = codeBy("Const='ab' Iter Comp=1 Pop end || list somewhere | t: For>x Pop Load=nothing Collect Jump>t x: Pop Return")
	c.Parts[0].Name, c.Parts[0].Line, c.Parts[1].Line = "any text\n", 77, 88
	o = wantCodeRun(t, "lines of parts", c, "", "NameError")
	if want := []impl.Spot{{Name: "somewhere", Line: 88}, {Name: "any text\n", Line: 77}}; !slices.Equal(o.Trace, want) {
		t.Error(o.Trace)
	}
	c = codeBy("Args Func=1 Store=f go=f end || def f | go=f end")
	o = wantCodeRun(t, "too deep", c, "", "RecursionError")
	if len(o.Trace) != impl.MaxTrace || o.Trace[19] != (impl.Spot{Name: "f", Line: 1}) || o.Ticks != impl.MaxCalls-1 {
		t.Error(outTold(o))
	}
}

func TestP11MachineParts(t *testing.T) {
	wantTold(t, []codeRun{
		// Two that name one another, and one that makes itself.
		{"Args Func=1 Store=f Load=f Args Const=5 Add Call tell end || def f n/1 | Load=n False>x Args Func=2 Load=n Const=1 Binary=7 Deco Return x: Const='done' Return || def g n/1 | Args Func=1 Load=n Const=1 Binary=7 Deco Return", "", "RecursionError"},
		{"Args Func=1 Store=f Load=f Args Const=4 Add Call tell end || def f n/1 | show=n Load=n False>x Args Func=2 Load=n Const=1 Binary=7 Deco Return x: Const='done' Return || def g n/1 | Args Func=1 Load=n Const=1 Binary=7 Deco Return", "4 2 0 done", ""},
		{"Args Func=1 Store=f Load=f Args Const=3 Add Call tell end || def f n/1 | show=n Load=n False>x Args Func=1 Load=n Const=1 Binary=7 Deco Return x: Const='done' Return", "3 2 1 0 done", ""},
		{"Const='a' Iter Comp=1 Pop end || list c | Load=print Pop Const='a' Iter Comp=1 Collect Pop Return", "", "RecursionError"},
		{"Args Class=1 Pop end || class A | Args Class=1 Store=B end", "", "RecursionError"},
		{"Const='a' Iter Gen=1 Store=g Load=list Load=g Deco Pop end || lazy c | Load=next Load=g Deco Yield Pop end", "", "ValueError"},
		{"Const=3 Store=n Args Class=1 tell end || class A | show=n Load=n Const=1 Binary=7 Dup Store=n False>x Args Class=1 Store=B x: end", "3 2 1 <class A>", ""},
		// Classes.
		{"Args Class=1 tell end || class any | Const=5 Return", "<class any>", ""},
		{"Args Const=5 Add Class=1 tell end || class A | say='body' end", "body", "TypeError"},
		{"Args Load=ValueError Add Class=1 Store=A Load=A Raise=1 || class A | end", "", "A"},
		{"Args Const=1 Key=k Class=1 tell end || class A | end", "", "TypeError"},
		{"Args Class=1 Store=A Args Load=A Add Const=7 Key=k Class=2 tell end || class A __init_subclass__.class | Args Func=3 Store=__init_subclass__ end || class B | say='B' end || def i cls/1 k/3 | show=cls show=k end", "B <class B> 7 <class B>", ""},
		// Modules.
		{"Import=main tell Import=main From=__name__ tell Pop end", "<module __main__> __main__", ""},
		{"Const=3 Store=x Import=main From=x tell Const=4 Store=x From=x tell Pop end", "3 4", ""},
		{"Import=main From=x tell Pop end", "", "ImportError"},
		{"Import=other Pop end", "", "ImportError"},
		{"Import=__main__ Pop end", "", "ImportError"},
		{"Import=main Attr=x tell end", "", "AttributeError"},
		// Raising.
		{"Load=ValueError Load=KeyError Raise=2", "", "ValueError"},
		{"Load=ValueError Const=None Raise=2", "", "ValueError"},
		{"Try>h Load=ValueError Load=KeyError Raise=2 h: Handle=x Load=repr Load=x Attr=__cause__ Deco tell end", "KeyError()", ""},
		{"Try>h Load=ValueError Const=None Raise=2 h: Handle=x Load=x Attr=__cause__ tell end", "None", ""},
		{"Load=ValueError Const=5 Raise=2", "", "TypeError"},
		{"Const=5 Raise=1", "", "TypeError"},
		{"Load=int Raise=1", "", "TypeError"},
		{"Load=ValueError Args Const='a' Add Const='b' Add Call Raise=1", "", "ValueError: ('a', 'b')"},
		{"Assert=0", "", "AssertionError"},
		{"Const='why' Assert=1", "", "AssertionError: why"},
		{"Const=9 Const='why' Assert=1", "", "AssertionError: why"},
	})
}

// Patterns bind names as they are meant in the part, those that are not in Names
// as globals.
func TestP11MachinePatterns(t *testing.T) {
	put := func(c impl.Code, at int, texts ...string) impl.Code {
		for _, text := range texts {
			c.Parts[at].Pats = append(c.Parts[at].Pats, patternOf(t, text))
		}
		return c
	}
	c := put(codeBy("Const=5 Case=0 tell tell show=x end"), 0, "x")
	wantCodeRun(t, "a capture", c, "True 5 5", "")
	c = put(codeBy("Args Const=1 Add Const=2 Add Finish=1 Case=0 tell Case=1 tell Pop show=y Try>h show=x BlockEnd end h: Pop say='none' end"), 0, "[x, 3]", "[1, *y]")
	wantCodeRun(t, "nothing is bound ahead of a fit", c, "False True [2] none", "")
	c = put(codeBy("Args Func=1 Store=f Load=f Args Const=5 Add Call Pop show=y show=x end || def f a/1 x.local | Load=a Case=0 Pop Pop show=x Load=a Case=1 Pop Pop end"), 1, "x", "y")
	wantCodeRun(t, "names of a function", c, "5 5", "NameError")
	c = put(codeBy("Const=5 Case=0 tell Pop end"), 0, "str(x)")
	wantCodeRun(t, "a class", c, "False", "")
	c = put(codeBy("Const=5 Case=0 tell Pop end"), 0, "nothing.x")
	wantCodeRun(t, "a value that is not there", c, "", "NameError")
	c = put(codeBy("Const=-1 Case=0 tell Case=1 tell Case=2 tell Pop end"), 0, "-1", "-1.0 | None", "None")
	wantCodeRun(t, "values", c, "True True False", "")
	c = put(codeBy("Const=9 Const=5 Case=0 Pop tell tell end"), 0, "_")
	wantCodeRun(t, "what is below", c, "5 9", "")
}

func TestP11MachineTicks(t *testing.T) {
	for _, row := range []struct {
		code string
		want int64
	}{
		{"end", 0}, {"Stmt=1 end", 1}, {"Turn end", 1}, {"Turn Stmt=1 Stmt=1 end", 3}, {"say=1 end", 0},
		{"Args Const=1 Add Const=2 Add Finish=0 Pop end", 2}, {"Args Const=1 Add Const=1 Add Finish=2 Pop end", 1}, {"Dict Const=1 Const=1 Put Finish=3 Pop end", 1},
		{"Args Func=1 Store=f go=f end || def f | end", 1}, {"Args Func=1 Store=f go=f end || gen f | end", 1}, {"Args Class=1 Pop end || class f | end", 1},
		{"Const='ab' Iter Comp=1 Pop end || list c | Pop Return", 0}, {"Const='ab' Iter Gen=1 Pop end || lazy c | end", 0},
		{"Const='ab' Iter Comp=1 Pop end || list c | t: For>x Collect Jump>t x: Pop Return", 5},
		{"Const='ab' Unpack=2 Pop Pop end", 3}, {"Const='ab' Unpack=10001 Pop end", 5},
		{"Args Const='ab' AddAll Pop end", 3}, {"Args Dict Const='a' Const=1 Put Finish=3 Keys Pop end", 2}, {"Const='ab' Iter For>x Pop x: Pop end", 1},
	} {
		c := codeBy(row.code)
		if strings.Contains(row.code, "For>x Pop x:") {
			c = codeBy("Const='ab' Iter For>x Pop Pop end x: Pop end")
		}
		o := wantCodeRun(t, row.code, c, strings.TrimSpace(strings.Repeat("1", strings.Count(row.code, "say"))), "")
		if o.Ticks != row.want {
			t.Errorf("%s: %d ticks, not %d", row.code, o.Ticks, row.want)
		}
		for budget := int64(0); budget < o.Ticks; budget++ {
			if got := impl.RunCode(c, budget); got.Code != impl.OutTicks || got.Ticks != budget {
				t.Errorf("%s with %d: %s", row.code, budget, outTold(got))
			}
		}
		if got := impl.RunCode(c, o.Ticks); !sameOut(got, o) {
			t.Errorf("%s with all: %s", row.code, outTold(got))
		}
	}
	for budget, code := range map[int64]int64{-1: impl.OutArgs, 0: impl.OutEnd, impl.MaxTicks: impl.OutEnd, impl.MaxTicks + 1: impl.OutArgs, 1 << 62: impl.OutArgs, -1 << 63: impl.OutArgs} {
		if o := impl.RunCode(codeBy("end"), budget); !sameOut(o, impl.Out{Code: code}) {
			t.Errorf("budget %d: %s", budget, outTold(o))
		}
	}
}
