package tests

import (
	"fmt"
	"math"
	"slices"
	"strings"
	"testing"

	"loop.example/g00009/impl"
)

// partOf is a part with these steps, three words and a pattern.
func partOf(kind int64, form int64, gen bool, text string) impl.Part {
	p := assembled(stepsOf(text))
	p.Name, p.Kind, p.Form, p.Gen, p.Line = "x", kind, form, gen, 1
	for len(p.Words) < 3 {
		p.Words = append(p.Words, fmt.Sprint("w", len(p.Words)))
	}
	p.Pats = []impl.Tree{{Nodes: []impl.Node{{Kind: impl.PAny, Line: 1}}}}
	return p
}

// wantWays asks whether steps can be run, in a part that kind says: module, def,
// gen, class, list, set, dict, lazy.
func wantWays(t *testing.T, kind string, text string, want bool) {
	t.Helper()
	parts := fullCode().Parts
	at := slices.Index(strings.Fields("module def class list set dict lazy gen"), kind)
	p := partOf(parts[at].Kind, parts[at].Form, parts[at].Gen, text)
	p.Params, p.Names = parts[at].Params, parts[at].Names
	parts[at] = p
	c := impl.Code{Parts: parts}
	wantTaken(t, fmt.Sprintf("%s: %s\n%s\n", kind, text, listing(p)), c, want)
}

// wayRows: with each row stands whether it can be run, + or -.
const wayRows = `
+ module Const=None Return
+ module Load=a Return
- module
- module Const=None
- module Return
- module Const=None Const=None
- module Const=None Pop
- module Const=None Stmt=1
- module Const=None Return Const=None
+ module Const=None Return Return
+ module Const=None Return Break
+ module Const=None Return Continue
+ module Const=None Return Reraise
+ module Const=None Return Raise=0
+ module Const=None Return Assert=1
+ module Const=None Return x: Jump>x
+ module x: Jump>x
- module x: Const=1 Jump>x
- module x: Const=1 False>x
+ module Const=1 Store=a Const=1 Return
- module Store=a Const=1 Return
+ module Unbind=a Stmt=1 Turn Const=1 Return
+ module Const=1 Pop Const=1 Return
+ module Args Pop Const=1 Return
+ module Dict Pop Const=1 Return
+ module Const=1 Iter Pop Const=1 Return
+ module Import=a Pop Const=1 Return
- module Pop Const=1 Return
+ module Const=1 Dup Pop Return
- module Dup Pop Return
- module Args Dup Pop Return
+ module Const=1 Const=1 Dup2 Pop Pop Pop Return
- module Const=1 Dup2 Return
+ module Const=1 Const=1 Swap Pop Return
- module Const=1 Swap Return
- module Args Const=1 Swap Return
+ module Const=1 Const=1 Const=1 Rot Return
- module Const=1 Const=1 Rot Return
+ module Args Const=1 Add Const=1 AddAll Const=1 Key=a Const=1 Keys Finish=0 Return
+ module Args Finish=1 Return
+ module Args Finish=2 Return
- module Args Finish=3 Return
- module Dict Finish=0 Return
- module Const=1 Finish=0 Return
+ module Dict Const=1 Const=1 Put Const=1 Merge Finish=3 Return
- module Dict Const=1 Put Finish=3 Return
- module Dict Const=1 Add Finish=3 Return
- module Args Const=1 Merge Finish=0 Return
- module Const=1 Add Return
- module Args Args Add Finish=0 Return
+ module Const=1 Args Call Return
- module Args Call Return
- module Const=1 Const=1 Call Return
- module Args Const=1 Call Return
+ module Args Func=1 Return
- module Const=1 Func=1 Return
+ module Args Func=7 Return
- module Args Func=2 Return
- module Args Func=0 Return
- module Args Func=3 Return
+ module Args Class=2 Return
- module Args Class=1 Return
+ module Const=1 Iter Comp=3 Return
+ module Const=1 Iter Comp=4 Return
+ module Const=1 Iter Comp=5 Return
- module Const=1 Iter Comp=6 Return
- module Const=1 Iter Comp=1 Return
+ module Const=1 Iter Gen=6 Return
- module Const=1 Iter Gen=3 Return
- module Const=1 Iter Gen=7 Return
- module Const=1 Comp=3 Return
- module Const=1 Gen=6 Return
- module Const=1 Iter Iter Pop Const=1 Return
- module Const=1 Iter Return
+ module Const=1 Const=1 Deco Return
+ module Const=1 Const=1 Item Return
+ module Const=1 Const=1 Binary=1 Return
+ module Const=1 Const=1 Aug=12 Return
+ module Const=1 Const=1 Compare=10 Return
- module Const=1 Deco Return
- module Const=1 Item Return
- module Const=1 Binary=1 Return
- module Const=1 Aug=1 Return
- module Const=1 Compare=1 Return
+ module Const=1 Attr=a Unary=1 Not Format=a/0 Return
- module Attr=a Return
- module Unary=1 Return
- module Not Return
- module Format=a/0 Return
+ module Const=1 Const=1 SetAttr=a Const=1 Return
- module Const=1 SetAttr=a Const=1 Return
+ module Const=1 DelAttr=a Const=1 Return
- module DelAttr=a Const=1 Return
+ module Const=1 Const=1 Const=1 SetItem Const=1 Return
- module Const=1 Const=1 SetItem Const=1 Return
+ module Const=1 Const=1 DelItem Const=1 Return
- module Const=1 DelItem Const=1 Return
+ module Const=1 Const=1 Const=1 Slice Return
- module Const=1 Const=1 Slice Return
+ module Const=1 FalseKeep>x Const=1 x: Return
+ module Const=1 TrueKeep>x Const=1 x: Return
- module Const=1 FalseKeep>x Const=1 Pop x: Const=1 Return
- module Const=1 FalseKeep>x x: Const=1 Return
- module FalseKeep>x Const=1 x: Return
+ module Const=1 False>x Const=1 Return x: Const=1 Return
- module Const=1 False>x Const=1 x: Const=1 Return
- module False>x x: Const=1 Return
+ module Const=1 Iter t: For>x Pop Jump>t x: Pop Const=1 Return
- module Const=1 Iter t: For>x Jump>t x: Pop Const=1 Return
- module Const=1 t: For>x Pop Jump>t x: Pop Const=1 Return
- module For>x Pop x: Const=1 Return
- module Const=1 Iter Const=1 t: For>x Pop Jump>t x: Pop Pop Const=1 Return
- module Const=1 Iter t: For>x Pop Jump>t x: Const=1 Return x2: Pop Const=1 For>t
- module Const=1 Collect Const=1 Return
+ module Join=0 Return
+ module Const=1 Const=1 Join=2 Return
- module Const=1 Join=2 Return
+ module Const=1 Unpack=3 Pop Pop Return
- module Const=1 Unpack=0 Return
- module Unpack=1 Return
+ module Const=1 Unpack=20002 Pop Return
- module Const=1 Unpack=20003 Pop Pop Pop Return
- module Const=1 Raise=2
+ module Const=1 Const=1 Raise=2
+ module Raise=0
+ module Const=1 Assert=1
- module Assert=1
+ module Assert=0
- module Reraise
- module Break
- module Continue
- module Const=1 Yield Return
- module Const=1 Iter Const=1 YieldFrom Return
- def Const=1 Yield Return
- class Const=1 Yield Return
- list Const=1 Yield Pop Pop Return
- def Const=1 Return Yield Return
+ gen Const=1 Yield Return
+ lazy Const=1 Yield Return
- gen Yield Return
+ gen Const=1 Iter Const=1 YieldFrom Return
- gen Const=1 Const=1 YieldFrom Return
- gen Const=1 Iter YieldFrom Return
+ module Const=1 Case=0 False>x x: Return
- module Case=0 Return
+ module Import=a Return
+ module Import=a From=a Pop Pop Const=1 Return
- module Import=a From=a From=b Return
+ module Import=a From=a Store=a From=b Return
- module Const=1 From=a Return
- module Import=a Dup From=a Return
+ module Import=a Dup Return
+ module Import=a Attr=a Return
- module Const=1 False>x Import=a Jump>y x: Const=1 y: Return
- module Const=1 Iter Return
- module Args Return
- module Dict Return
`

const blockRows = `
+ module Loop>z Turn Break z: Const=1 Return
+ module Loop>z Continue z: Const=1 Return
+ module Loop>z BlockEnd z: Const=1 Return
- module Loop>z z: Const=1 Return
+ module Loop>z Const=1 Return z: Const=1 Return
- module Loop>z Const=1 BlockEnd z: Const=1 Return
- module Loop>z Const=1 BlockEnd Pop z: Const=1 Return
- module BlockEnd Const=1 Return
- module Again Const=1 Return
- module HandleEnd=0 Const=1 Return
- module Handle=0 HandleEnd=0 Const=1 Return
- module Loop>z Break z: Break
+ module Loop>z Loop>y Break y: Break z: Const=1 Return
+ module Loop>z Fin>f Break f: Again BlockEnd z: Const=1 Return
+ module Loop>z Fin>f BlockEnd f: Continue z: Const=1 Return
+ module Fin>f Loop>z Break z: BlockEnd f: Again Const=1 Return
- module Fin>f BlockEnd f: Break
+ module Fin>f BlockEnd f: Again Const=1 Return
- module Fin>f f: Again Const=1 Return
- module Fin>f Again f: Again Const=1 Return
- module Fin>f BlockEnd f: BlockEnd Const=1 Return
- module Fin>f BlockEnd Again f: Again Const=1 Return
+ module Fin>f BlockEnd f: Const=1 Return
+ module Fin>f BlockEnd f: Const=1 Again Return
- module Const=1 Fin>f BlockEnd f: Pop Again Const=1 Return
+ module Const=1 Fin>f BlockEnd f: Again Pop Const=1 Return
+ module Try>h BlockEnd Const=1 Return h: Reraise
+ module Try>h BlockEnd Const=1 Return h: Pop Const=1 Return
+ module Try>h BlockEnd Const=1 Return h: Const=1 Return Again x: Const=1 Jump>h
- module Try>h BlockEnd h: Reraise
- module Try>h Reraise h: Reraise
+ module Try>h BlockEnd Const=1 Return h: Load=a Match>n Handle=0 HandleEnd=0 Const=1 Return n: Reraise
- module Try>h BlockEnd Const=1 Return h: Match>n Handle=0 HandleEnd=0 Const=1 Return n: Reraise
+ module Try>h BlockEnd Const=1 Return h: Handle=a Const=1 Return
+ module Try>h BlockEnd Const=1 Return h: Handle=a HandleEnd=a Const=1 Return
- module Try>h BlockEnd Const=1 Return h: Handle=a HandleEnd=0 Const=1 Return
- module Try>h BlockEnd Const=1 Return h: Handle=0 HandleEnd=a Const=1 Return
- module Try>h BlockEnd Const=1 Return h: Handle=a HandleEnd=b Const=1 Return
- module Try>h BlockEnd Const=1 Return h: Handle=0 BlockEnd Const=1 Return
- module Try>h BlockEnd Const=1 Return h: Handle=0 Again Const=1 Return
+ module Try>h BlockEnd Const=1 Return h: Handle=0 Const=1 HandleEnd=0 Return
- module Const=1 Try>h BlockEnd Return h: Handle=0 Return
- module Const=1 Try>h BlockEnd Return h: Handle=0 Pop HandleEnd=0 Const=1 Return
+ module Const=1 Try>h BlockEnd Return h: Handle=0 HandleEnd=0 Return
- module Const=1 Try>h Pop BlockEnd Const=1 Return h: Reraise
- module Const=1 Try>h Return h: Reraise
+ module Const=1 Try>h Const=1 Return h: Reraise
- module Const=1 Loop>z Dup Pop BlockEnd z: Return
- module Const=1 Loop>z Store=a Const=1 BlockEnd z: Return
- module Const=1 Loop>z Raise=1 z: Return
- module Const=1 Loop>z Attr=a BlockEnd z: Return
+ module Const=1 Iter Loop>z t: For>x Pop Jump>t x: BlockEnd z: Pop Const=1 Return
- module Const=1 Iter Loop>z t: For>x Pop Pop BlockEnd z: Pop x: Const=1 Return
- module Const=1 Iter Loop>z Const=1 YieldFrom z: Pop Const=1 Return
+ module Const=1 With>z Pop BlockEnd z: Const=1 Return
+ module Const=1 With>z Store=a BlockEnd z: Const=1 Return
- module With>z Pop BlockEnd z: Const=1 Return
- module Const=1 With>z BlockEnd z: Const=1 Return
- module Const=1 With>z Pop Pop BlockEnd z: Const=1 Return
- module Const=1 With>z Pop BlockEnd z: Return
+ module Const=1 Const=1 With>z Pop BlockEnd z: Return
- module Const=1 Const=1 With>z Pop Pop BlockEnd z: Return
- module Args With>z Pop BlockEnd z: Const=1 Return
+ module Import=a With>z Pop BlockEnd z: Const=1 Return
- module Load=a False>x Loop>z x: BlockEnd z: Const=1 Return
- module Load=a False>x Loop>z Jump>y x: Try>h y: BlockEnd z: Const=1 Return h: Reraise
- module Load=a False>x Loop>z Jump>y x: Loop>v y: BlockEnd v: z: Const=1 Pop v: Const=1 Return
- module Load=a False>x Try>h Jump>y x: Try>g y: BlockEnd Const=1 Return h: Reraise g: Reraise
- module Load=a False>x Const=1 Try>h Jump>y x: Try>h y: BlockEnd Const=1 Return h: Reraise
+ module Loop>z BlockEnd Loop>z BlockEnd z: Const=1 Return
+ list t: For>x Collect Jump>t x: Pop Return
+ set t: For>x Collect Jump>t x: Pop Return
- dict t: For>x Collect Jump>t x: Pop Return
+ dict t: For>x Dup Collect Jump>t x: Pop Return
- list t: For>x Dup Collect Jump>t x: Pop Return
- lazy t: For>x Collect Jump>t x: Pop Const=1 Return
+ lazy t: For>x Yield Pop Jump>t x: Pop Const=1 Return
- lazy t: For>x Yield Pop Jump>t x: Pop Return
+ lazy Const=1 Return
- list Pop Pop Const=1 Return
+ list Pop Const=1 Return
+ list Const=1 Return
- list Return
- list Pop Dup Return
- list Pop Loop>z Return z: Return
+ list Pop Loop>z BlockEnd z: Return
- list Swap Return
- module Collect Const=1 Return
- def Collect Const=1 Return
+ def Const=1 Return Collect Return
+ def Const=1 Return Pop Pop Call Swap Return
- def Const=1 Return Const=9 Yield Return
`

func TestP12Ways(t *testing.T) {
	for _, row := range strings.Split(strings.Trim(wayRows+blockRows, "\n"), "\n") {
		if row == "" {
			continue
		}
		kind, text, _ := strings.Cut(row[2:], " ")
		wantWays(t, kind, text, row[0] == '+')
	}
}

// Of each instruction the least and the greatest Arg can be, one beyond can't.
func TestP12Args(t *testing.T) {
	bounds := map[string][2]int64{
		"Const": {0, 0}, "Load": {0, 2}, "Store": {0, 2}, "Unbind": {0, 2}, "Key": {0, 2}, "Attr": {0, 2}, "SetAttr": {0, 2}, "DelAttr": {0, 2}, "Import": {0, 2}, "From": {0, 2}, "Case": {0, 0},
		"Handle": {0, 3}, "HandleEnd": {0, 3}, "Binary": {1, 12}, "Aug": {1, 12}, "Unary": {1, 3}, "Compare": {1, 10}, "Finish": {0, 3}, "Raise": {0, 2}, "Assert": {0, 1}, "Join": {0, 10000}, "Stmt": {1, math.MaxInt64},
		"Jump": {0, 2}, "False": {0, 2}, "FalseKeep": {0, 2}, "TrueKeep": {0, 2}, "For": {0, 2}, "Loop": {0, 2}, "Try": {0, 2}, "Fin": {0, 2}, "With": {0, 2}, "Match": {0, 2},
	}
	special := map[string][]int64{
		"Func": {1, 7}, "Class": {2}, "Comp": {3, 4, 5}, "Gen": {6}, "Yield": {}, "YieldFrom": {},
		"Format": {0, 1, 2, 4, 5, 6, 8, 9, 10}, "Unpack": {0, 1, 2, 9999, 10001, 10002, 20002, 19999, 99999999, 99989999},
	}
	others := map[string][]int64{
		"Format": {-1, -2, -4, 3, 7, 11, 12}, "Unpack": {-1, 10000, 20000, 20001, 30002, 99990000, 99999998, 100000000, 100009999},
		"Func": {-1, 0, 2, 3, 6, 8}, "Class": {-1, 0, 1, 3, 8}, "Comp": {-1, 0, 1, 2, 6, 8}, "Gen": {-1, 0, 1, 3, 5, 7, 8}, "Yield": {-1, 0, 1}, "YieldFrom": {-1, 0, 1},
	}
	check := func(op string, arg int64, want bool) {
		t.Helper()
		parts := fullCode().Parts
		p := partOf(impl.ScModule, 0, false, "Const=None")
		// No way comes to it: its Arg alone is looked at.
		p.Instrs = []impl.Instr{{Op: impl.IConst}, {Op: impl.IReturn}, {Op: instrOp(op), Arg: arg}}
		places := int64(3)
		if !slices.Contains(wayEnds, op) {
			p.Instrs = append(p.Instrs, impl.Instr{Op: impl.IReturn})
			places++
		}
		if hasAim(instrOp(op)) {
			want = arg >= 0 && arg < places
		}
		parts[0] = p
		wantTaken(t, fmt.Sprint(op, " ", arg), impl.Code{Parts: parts}, want)
	}
	for _, op := range instrNameList {
		if list, ok := special[op]; ok {
			for _, arg := range list {
				check(op, arg, true)
			}
			for _, arg := range append(others[op], math.MinInt64, math.MaxInt64) {
				check(op, arg, false)
			}
			continue
		}
		b := bounds[op]
		for _, arg := range []int64{b[0], b[1]} {
			check(op, arg, true)
		}
		for _, arg := range []int64{b[0] - 1, math.MinInt64, math.MinInt64 + 1, -1} {
			check(op, arg, false)
		}
		if b[1] < math.MaxInt64 {
			check(op, b[1]+1, false)
			check(op, math.MaxInt64, false)
		}
	}
	for _, op := range []int64{0, -1, impl.IFrom + 1, math.MaxInt64, math.MinInt64} {
		parts := fullCode().Parts
		parts[0].Instrs = append([]impl.Instr{{Op: impl.IConst}, {Op: impl.IReturn}, {Op: op}}, impl.Instr{Op: impl.IReturn})
		wantTaken(t, fmt.Sprint("no instruction ", op), impl.Code{Parts: parts}, false)
	}
}

func TestP12Limits(t *testing.T) {
	for _, n := range []int{impl.MaxInstrs, impl.MaxInstrs + 1} {
		wantWays2(t, n == impl.MaxInstrs, strings.Repeat("Stmt=1 ", n-2)+"Const=1 Return")
		// The same number in two parts.
		c := moduleOf(strings.Repeat("Stmt=1 ", n-4) + "Const=1 Return")
		f := moduleOf("Const=1 Return").Parts[0]
		f.Kind = impl.ScFunction
		c.Parts = append(c.Parts, f)
		wantTaken(t, fmt.Sprint(n, " instructions in two parts"), c, n == impl.MaxInstrs)
	}
	for _, n := range []int{impl.MaxCodeParts, impl.MaxCodeParts + 1} {
		c := moduleOf("Const=1 Return")
		f := moduleOf("Const=1 Return").Parts[0]
		f.Kind = impl.ScFunction
		for len(c.Parts) < n {
			c.Parts = append(c.Parts, f)
		}
		wantTaken(t, fmt.Sprint(n, " parts"), c, n == impl.MaxCodeParts)
	}
	// 100000 values, and one more: each Unpack takes one.
	wantWays2(t, true, "Const=1 "+strings.Repeat("Unpack=9999 ", 10)+strings.Repeat("Dup ", 19)+"Return")
	wantWays2(t, false, "Const=1 "+strings.Repeat("Unpack=9999 ", 10)+strings.Repeat("Dup ", 20)+"Return")
}

func wantWays2(t *testing.T, want bool, text string) {
	t.Helper()
	wantTaken(t, fmt.Sprintf("%.80s..", text), moduleOf(text), want)
}

// At all places together there are 40000000 values at most: none, one, 7999 times
// 5000, and at the last place what an IJoin leaves.
func TestP12AllValues(t *testing.T) {
	start := "Const=1 Unpack=5000 " + strings.Repeat("Stmt=1 ", 7998)
	wantWays2(t, true, start+"Join=2 Return")
	wantWays2(t, false, start+"Join=1 Return")
}
