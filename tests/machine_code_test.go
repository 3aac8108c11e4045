package tests

import (
	"strings"
	"testing"

	"loop.example/g00009/impl"
)

func TestP11MachineMoves(t *testing.T) {
	wantTold(t, []codeRun{
		{"Const=1 Const=2 Swap tell tell end", "1 2", ""},
		{"Const=1 Const=2 Const=3 Rot tell tell tell end", "2 1 3", ""},
		{"Const=0 Const=1 Const=2 Const=3 Rot Rot tell tell tell tell end", "1 3 2 0", ""},
		{"Const=1 Const=2 Const=3 Rot Rot Rot tell tell tell end", "3 2 1", ""},
		{"Const=1 Const=2 Dup2 tell tell tell tell end", "2 1 2 1", ""},
		{"Const=1 Dup tell tell end", "1 1", ""},
		{"Const=1 Const=2 Pop tell end", "1", ""},
		{"Args Const=1 Add Const=2 Add Const=3 Add Finish=0 Unpack=3 tell tell tell end", "1 2 3", ""},
		{"Const='abc' Unpack=10003 tell tell tell end", "['a'] b c", ""},
		{"Const='abcd' Unpack=20003 tell tell tell end", "a ['b', 'c'] d", ""},
		{"Const='abcd' Unpack=30003 tell tell tell end", "a b ['c', 'd']", ""},
		{"Const='ab' Unpack=20003 tell tell tell end", "a [] b", ""},
		{"Const='' Unpack=10001 tell end", "[]", ""},
		{"Const='' Unpack=0 say=7 end", "7", ""},
		{"Const='a' Unpack=0 say=7 end", "", "ValueError"},
		{"Const='a' Unpack=20003 Pop Pop Pop end", "", "ValueError"},
		{"Const=5 Unpack=1 Pop end", "", "TypeError"},
	})
	// A value that stands below stays as it is.
	wantTold(t, []codeRun{{"Const=9 Const='ab' Unpack=2 tell tell tell end", "a b 9", ""}})
}

func TestP11MachineValues(t *testing.T) {
	wantTold(t, []codeRun{
		{"Const=7 Const=2 Binary=7 tell end", "5", ""},
		{"Const=7 Const=2 Aug=10 tell end", "3", ""},
		{"Const=7 Const=2 Compare=1 tell Const=7 Const=2 Compare=3 tell end", "False True", ""},
		{"Const=7 Unary=2 tell end", "-7", ""},
		{"Const=7 Not tell Const=0 Not tell end", "False True", ""},
		{"Const='abc' Const=1 Item tell end", "b", ""},
		{"Const='abcdef' Const=1 Const=5 Const=2 Slice Item tell end", "bd", ""},
		{"Load=str Const=5 Deco tell end", "5", ""},
		{"Load=len Load=str Const=555 Deco Deco tell end", "3", ""},
		{"Dict Const='k' Const=1 Put Const='k' Const=2 Put Const=3 Const=4 Put Finish=3 tell end", "{'k': 2, 3: 4}", ""},
		{"Dict Args Finish=1 Const=4 Put Finish=3 tell end", "", "TypeError"},
		{"Dict Dict Const=1 Const=2 Put Finish=3 Merge Const=3 Const=4 Put Finish=3 tell end", "{1: 2, 3: 4}", ""},
		{"Dict Const=1 Merge Finish=3 tell end", "", "TypeError"},
		{"Args Const=1 Add Const='ab' AddAll Const=1 Add Finish=0 tell end", "(1, 'a', 'b', 1)", ""},
		{"Args Const=1 Add Const='ab' AddAll Const=1 Add Finish=1 tell end", "[1, 'a', 'b', 1]", ""},
		{"Args Const=1 Add Const='ab' AddAll Const=1 Add Finish=2 tell end", "{1, 'a', 'b'}", ""},
		{"Args Const=1 Add Const=2 Key=k Dict Const='l' Const=3 Put Finish=3 Keys Finish=1 tell end", "[1]", ""},
		{"Args Const=1 Key=k Const=2 Key=k Finish=1 tell end", "", "TypeError"},
		{"Args Const=1 Key=k Dict Const='k' Const=3 Put Finish=3 Keys Finish=1 tell end", "", "TypeError"},
		{"Args Dict Const=5 Const=3 Put Finish=3 Keys Finish=1 tell end", "", "TypeError"},
		{"Args Const=5 Keys Finish=1 tell end", "", "TypeError"},
		{"Args Const=5 AddAll Finish=1 tell end", "", "TypeError"},
		{"Load=dict Args Const=1 Key=a Dict Const='b' Const=2 Put Finish=3 Keys Call tell end", "{'a': 1, 'b': 2}", ""},
		{"Const=5 Args Call tell end", "", "TypeError"},
		{"Args Const=1 Add Finish=1 Store=a Const=9 Load=a Const=0 SetItem show=a Load=a Const=0 DelItem show=a end", "[9] []", ""},
		{"Load=print Attr=nothing tell end", "", "AttributeError"},
		{"Const=1 Const=2 SetAttr=x end", "", "AttributeError"},
		{"Const=1 DelAttr=x end", "", "AttributeError"},
		{"Import=main Store=m Const=5 Load=m SetAttr=a show=a Load=m DelAttr=a show=a end", "5", "NameError"},
		{"Const=1 FalseKeep>x say=2 Const=3 x: tell end", "2 3", ""},
		{"Const=0 FalseKeep>x say=2 Const=3 x: tell end", "0", ""},
		{"Const=1 TrueKeep>x say=2 Const=3 x: tell end", "1", ""},
		{"Const='' TrueKeep>x say=2 Const=3 x: tell end", "2 3", ""},
		{"Const=0 False>x say=1 x: say=2 Const=1 False>y say=3 y: say=4 end", "2 3 4", ""},
		{"Const=1.5 tell Const=None tell Const=True tell Const=False tell Const='é' tell Const=-12345678901234567890123 tell end", "1.5 None True False é -12345678901234567890123", ""},
		{"Const=inf tell Const=-0.0 tell end", "inf -0.0", ""},
	})
}

func TestP11MachineTexts(t *testing.T) {
	wantTold(t, []codeRun{
		{"Join=0 Args Pop Store=a Load=repr Args Load=a Add Call tell end", "''", ""},
		{"Const='a' Const=5 Const='b' Join=3 tell end", "ab", ""},
		{"Const=None Const=1.5 Args Finish=1 Join=3 Store=a Load=repr Load=a Deco tell end", "''", ""},
		{"Load=print Import=main Const='x' Join=3 tell end", "x", ""},
		{"Const=9 Const='a' Const='b' Join=2 tell tell end", "ab 9", ""},
		{"Const=5 Format=04d/0 tell Const='a' Format=*^3/0 tell Const='a' Format=/1 tell Const='a' Format=/2 tell end", "0005 *a* 'a' a", ""},
		{"Const=5 Format=*^4/1 tell end", "*5**", ""},
		{"Const=None Format=5/0 tell end", "", "TypeError"},
		{"Const='a' Format=d/0 tell end", "", "ValueError"},
		{"Args Const=5 Add Finish=1 Format=/0 Const='b' Join=2 tell end", "[5]b", ""},
	})
	long := "Const='" + strings.Repeat("a", 10000) + "' "
	wantCodeRun(t, "as long as a text can be", codeBy(long+"Const='"+strings.Repeat("b", impl.MaxText-10000)+"' Join=2 Store=a Load=len Load=a Deco tell end"), "16384", "")
	wantCodeRun(t, "longer by one", codeBy(long+"Const='"+strings.Repeat("b", impl.MaxText-9999)+"' Join=2 Store=a Load=len Load=a Deco tell end"), "", "OverflowError")
	wantCodeRun(t, "very long", codeBy(long+repeated(6999, "Dup")+"Join=7000 tell end"), "", "OverflowError")
	wantCodeRun(t, "many that are no texts", codeBy("Const=1 "+repeated(6999, "Dup")+"Join=7000 Store=a Load=len Load=a Deco tell end"), "0", "")
	o := wantCodeRun(t, "what a text costs", codeBy("Const='"+strings.Repeat("a", 63)+"' Const='b' Join=2 Pop end"), "", "")
	if o.Ticks != 2 {
		t.Error("64 bytes cost", o.Ticks)
	}
}

func TestP11MachineNames(t *testing.T) {
	wantTold(t, []codeRun{
		// A name that is not in Names is a global, wherever it is.
		{"Const=5 Store=x Args Func=1 Store=f go=f show=x end || def f | show=x Const=6 Store=x end", "5 6", ""},
		{"Const=5 Store=x Args Func=1 Store=f go=f show=x end || def f | Unbind=x end", "", "NameError"},
		{"Args Func=1 Store=f go=f end || def f | show=x end", "", "NameError"},
		{"Args Func=1 Store=f go=f end || def f | Unbind=x end", "", "NameError"},
		{"Args Func=1 Store=f go=f end || def f | Load=len tell end", "<builtin len>", ""},
		{"Args Class=1 Store=A Load=A Attr=x tell show=y end || class A x.class | Const=1 Store=x Const=2 Store=y end", "1 2", ""},
		{"Const=3 Store=x Args Class=1 Store=A show=x end || class A x.class y.global | show=x Const=1 Store=x show=x Unbind=x show=x Const=4 Store=y show=y end", "3 1 3 4 3", ""},
		{"Args Class=1 Store=A Load=A Attr=y tell end || class A x.class y.global | Const=4 Store=y end", "", "AttributeError"},
		// What a frame has of its own.
		{"Const=5 Store=x Args Func=1 Store=f go=f end || def f x.local | show=x end", "", "NameError"},
		{"Const=5 Store=x Args Func=1 Store=f go=f end || def f x.cell | show=x end", "", "NameError"},
		{"Const=5 Store=x Args Func=1 Store=f go=f show=x end || def f x.local | Const=6 Store=x show=x Unbind=x show=x end", "6", "NameError"},
		{"Const=5 Store=x Args Func=1 Store=f go=f show=x end || def f x.cell | Const=6 Store=x show=x end", "6 5", ""},
		{"Args Func=1 Store=f go=f end || def f x.local | Unbind=x end", "", "NameError"},
		// A free name that no frame around has.
		{"Const=5 Store=x Args Func=1 Store=f go=f end || def f x.free | show=x end", "", "NameError"},
		{"Const=5 Store=x Args Func=1 Store=f go=f end || def f x.free | Unbind=x end", "", "NameError"},
		{"Const=5 Store=x Args Func=1 Store=f go=f show=x end || def f x.free | Const=6 Store=x show=x end", "6 5", ""},
		{"Const=5 Store=x Args Func=1 Store=f go=f end || def f x.free | Const=6 Store=x Unbind=x show=x end", "", "NameError"},
		{"Args Func=1 Store=f go=f go=f end || def f x.free | Try>h show=x BlockEnd end h: Pop say='none' Const=6 Store=x show=x end", "none 6 none 6", ""},
		{"Args Class=1 Store=A end || class A x.free | show=x end", "", "NameError"},
		{"Args Class=1 Store=A Load=A Attr=x tell end || class A x.free | Const=6 Store=x show=x end", "6", "AttributeError"},
		{"Const='ab' Iter Comp=1 tell end || list c x.free | t: For>y Store=x Load=x Collect Jump>t y: Pop Return", "['a', 'b']", ""},
		{"Const='ab' Iter Comp=1 tell end || list c x.free | Load=x Collect Pop Return", "", "NameError"},
		// One that a frame around has: the nearest.
		{"Args Func=1 Store=f go=f end || def f x.cell | Const=1 Store=x Args Func=2 Store=g go=g show=x end || def g x.free | show=x Const=2 Store=x end", "1 2", ""},
		{"Args Func=1 Store=f go=f end || def f x.cell | Args Func=2 Store=g go=g show=x Const=3 Store=x go=g end || def g x.free | Const=2 Store=x end", "2", ""},
		{"Args Func=1 Store=f go=f end || def f x.cell | Const=1 Store=x Args Func=2 Store=g go=g end || def g x.cell | Const=2 Store=x Args Func=3 Store=h go=h end || def h x.free | show=x end", "2", ""},
		{"Args Func=1 Store=f go=f end || def f x.cell | Const=1 Store=x Args Func=2 Store=g go=g end || def g | Args Func=3 Store=h go=h end || def h x.free | show=x end", "1", ""},
		{"Args Func=1 Store=f go=f end || def f x.cell | Const=1 Store=x Args Func=2 Store=g go=g end || def g x.global | Const=2 Store=x Args Func=3 Store=h go=h end || def h x.free | show=x end", "1", ""},
		{"Args Func=1 Store=f go=f end || def f x.cell | Const=1 Store=x Args Class=2 Store=A end || class A x.class | Const=2 Store=x Args Func=3 Store=h go=h show=x end || def h x.free | show=x end", "1 2", ""},
		{"Args Func=1 Store=f go=f end || def f x.cell | Const=1 Store=x Args Class=2 Store=A show=x end || class A x.free | show=x Const=2 Store=x end", "1 2", ""},
		{"Args Func=1 Store=f go=f end || def f x.cell | Const=1 Store=x Const='ab' Iter Comp=2 tell end || list c x.free | t: For>y Pop Load=x Collect Jump>t y: Pop Return", "[1, 1]", ""},
		{"Args Func=1 Store=f go=f end || def f x.cell | Const=1 Store=x Const='ab' Iter Gen=2 Store=g Const=2 Store=x Load=list Load=g Deco tell end || lazy c x.free | t: For>y Pop Load=x Yield Pop Jump>t y: Pop end", "[2, 2]", ""},
		// What a frame has stored in a free name is there for those in it.
		{"Args Func=1 Store=f go=f end || def f x.free | Const=1 Store=x Args Func=2 Store=g go=g show=x end || def g x.free | show=x Const=2 Store=x end", "1 2", ""},
		// Parameters.
		{"Args Func=1 Store=f Load=f Args Const=1 Add Const=2 Key=y Call Pop end || def f x/1 y/1 y.cell | show=x Args Func=2 Store=g go=g end || def g y.free | show=y end", "1 2", ""},
		{"Args Const=7 Key=y Const=8 Key=z Func=1 Store=f Load=f Args Const=1 Add Call Pop end || def f x/1 y/1 | show=x show=y Load=z end", "1 7", "NameError"},
		{"Args Const=5 Add Const=7 Key=x Func=1 Store=f go=f end || def f x/1 | show=x end", "7", ""},
		{"Args Const=7 Key=a Const=8 Key=b Func=1 Store=f go=f Load=f Args Const=1 Add Const=2 Key=c Call Pop end || def f a/2 b/4 | show=a show=b end", "() {} (1,) {'c': 2}", ""},
	})
}
