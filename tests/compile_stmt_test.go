package tests

import "testing"

// inModule stands behind the steps of a module's statements.
const inModule = "%s Const=None Return"

const compiledSimple = `
 => 
a => Stmt=1 Load=a Pop
a; b => Stmt=1 Load=a Pop Stmt=1 Load=b Pop
\n\na\n# note\n\nb => Stmt=3 Load=a Pop Stmt=6 Load=b Pop
pass => Stmt=1
raise => Stmt=1 Raise=0
raise a => Stmt=1 Load=a Raise=1
raise a from b => Stmt=1 Load=a Load=b Raise=2
assert a => Stmt=1 Load=a False>x Jump>y x: Assert=0 y:
assert a, b => Stmt=1 Load=a False>x Jump>y x: Load=b Assert=1 y:
import a => Stmt=1 Import=a Store=a
import a as b => Stmt=1 Import=a Store=b
from a import b => Stmt=1 Import=a From=b Store=b Pop
from a import b as c, d, a as a => Stmt=1 Import=a From=b Store=c From=d Store=d From=a Store=a Pop
global a, b; a => Stmt=1 Stmt=1 Load=a Pop
`

const compiledTargets = `
a = 1 => Stmt=1 Const=1 Dup Store=a Pop
a = b = 1 => Stmt=1 Const=1 Dup Store=a Dup Store=b Pop
a.b = c => Stmt=1 Load=c Dup Load=a SetAttr=b Pop
a.b.c = d => Stmt=1 Load=d Dup Load=a Attr=b SetAttr=c Pop
a[b] = c => Stmt=1 Load=c Dup Load=a Load=b SetItem Pop
a[b:] = c => Stmt=1 Load=c Dup Load=a Load=b Const=None Const=None Slice SetItem Pop
a = a.b = a[0] = c => Stmt=1 Load=c Dup Store=a Dup Load=a SetAttr=b Dup Load=a Const=0 SetItem Pop
a, b = c => Stmt=1 Load=c Dup Unpack=2 Store=a Store=b Pop
[a, b] = c => Stmt=1 Load=c Dup Unpack=2 Store=a Store=b Pop
a, = c => Stmt=1 Load=c Dup Unpack=1 Store=a Pop
*a, b = c => Stmt=1 Load=c Dup Unpack=10002 Store=a Store=b Pop
a, *b = c => Stmt=1 Load=c Dup Unpack=20002 Store=a Store=b Pop
a, b, *c.d, e = f => Stmt=1 Load=f Dup Unpack=30004 Store=a Store=b Load=c SetAttr=d Store=e Pop
[a, (b, *c), d.e] = f => Stmt=1 Load=f Dup Unpack=3 Store=a Unpack=20002 Store=b Store=c Load=d SetAttr=e Pop
() = a => Stmt=1 Load=a Dup Unpack=0 Pop
[] = a => Stmt=1 Load=a Dup Unpack=0 Pop
[*a] = b => Stmt=1 Load=b Dup Unpack=10001 Store=a Pop
[*(a, b[c])] = d => Stmt=1 Load=d Dup Unpack=10001 Unpack=2 Store=a Load=b Load=c SetItem Pop
a, b = b, a => Stmt=1 Args Load=b Add Load=a Add Finish=0 Dup Unpack=2 Store=a Store=b Pop
del a => Stmt=1 Unbind=a
del a.b => Stmt=1 Load=a DelAttr=b
del a[b] => Stmt=1 Load=a Load=b DelItem
del a[b:c] => Stmt=1 Load=a Load=b Load=c Const=None Slice DelItem
del a, (b, [c.d]), e[f] => Stmt=1 Unbind=a Unbind=b Load=c DelAttr=d Load=e Load=f DelItem
del () => Stmt=1
del [], a => Stmt=1 Unbind=a
`

const compiledAugmented = `
a |= b => Stmt=1 Load=a Load=b Aug=1 Store=a
a ^= b => Stmt=1 Load=a Load=b Aug=2 Store=a
a &= b => Stmt=1 Load=a Load=b Aug=3 Store=a
a <<= b => Stmt=1 Load=a Load=b Aug=4 Store=a
a >>= b => Stmt=1 Load=a Load=b Aug=5 Store=a
a += b => Stmt=1 Load=a Load=b Aug=6 Store=a
a -= b => Stmt=1 Load=a Load=b Aug=7 Store=a
a *= b => Stmt=1 Load=a Load=b Aug=8 Store=a
a /= b => Stmt=1 Load=a Load=b Aug=9 Store=a
a //= b => Stmt=1 Load=a Load=b Aug=10 Store=a
a %= b => Stmt=1 Load=a Load=b Aug=11 Store=a
a **= b => Stmt=1 Load=a Load=b Aug=12 Store=a
a += b, c => Stmt=1 Load=a Args Load=b Add Load=c Add Finish=0 Aug=6 Store=a
a.b += c => Stmt=1 Load=a Dup Attr=b Load=c Aug=6 Swap SetAttr=b
a.b.c -= d.e => Stmt=1 Load=a Attr=b Dup Attr=c Load=d Attr=e Aug=7 Swap SetAttr=c
a[b] += c => Stmt=1 Load=a Load=b Dup2 Item Load=c Aug=6 Rot SetItem
a.b[c:] *= 2 => Stmt=1 Load=a Attr=b Load=c Const=None Const=None Slice Dup2 Item Const=2 Aug=8 Rot SetItem
`

const compiledBlocks = `
if a: b => Stmt=1 Load=a False>x Stmt=1 Load=b Pop x:
if a: b\nelse: c => Stmt=1 Load=a False>x Stmt=1 Load=b Pop Jump>y x: Stmt=2 Load=c Pop y:
if a: b\nelif c: d\nelse: e => Stmt=1 Load=a False>x Stmt=1 Load=b Pop Jump>y x: Stmt=2 Load=c False>u Stmt=2 Load=d Pop Jump>v u: Stmt=3 Load=e Pop v: y:
if a: pass\nelif b: pass => Stmt=1 Load=a False>x Stmt=1 Jump>y x: Stmt=2 Load=b False>u Stmt=2 u: y:
while a: b => Stmt=1 Loop>z t: Turn Load=a False>x Stmt=1 Load=b Pop Jump>t x: BlockEnd z:
while a: b\nelse: c => Stmt=1 Loop>z t: Turn Load=a False>x Stmt=1 Load=b Pop Jump>t x: BlockEnd Stmt=2 Load=c Pop z:
while a:\n  break\n  continue => Stmt=1 Loop>z t: Turn Load=a False>x Stmt=2 Break Stmt=3 Continue Jump>t x: BlockEnd z:
while a and b: pass => Stmt=1 Loop>z t: Turn Load=a FalseKeep>u Load=b u: False>x Stmt=1 Jump>t x: BlockEnd z:
while a:\n  while b: break\n  break => Stmt=1 Loop>z t: Turn Load=a False>x Stmt=2 Loop>w u: Turn Load=b False>v Stmt=2 Break Jump>u v: BlockEnd w: Stmt=3 Break Jump>t x: BlockEnd z:
for a in b: c => Stmt=1 Load=b Iter Loop>z t: For>x Store=a Stmt=1 Load=c Pop Jump>t x: BlockEnd Pop Jump>y z: Pop y:
for a in b, c: pass => Stmt=1 Args Load=b Add Load=c Add Finish=0 Iter Loop>z t: For>x Store=a Stmt=1 Jump>t x: BlockEnd Pop Jump>y z: Pop y:
for a, *b.c in d: continue\nelse: e => Stmt=1 Load=d Iter Loop>z t: For>x Unpack=20002 Store=a Load=b SetAttr=c Stmt=1 Continue Jump>t x: BlockEnd Pop Stmt=2 Load=e Pop Jump>y z: Pop y:
for a[b] in c:\n  for d in e: break\n  else: continue => Stmt=1 Load=c Iter Loop>z t: For>x Load=a Load=b SetItem Stmt=2 Load=e Iter Loop>w u: For>v Store=d Stmt=2 Break Jump>u v: BlockEnd Pop Stmt=3 Continue Jump>s w: Pop s: Jump>t x: BlockEnd Pop Jump>y z: Pop y:
with a: b => Stmt=1 Load=a With>z Pop Stmt=1 Load=b Pop BlockEnd z:
with a as b: c => Stmt=1 Load=a With>z Store=b Stmt=1 Load=c Pop BlockEnd z:
with a as b.c, d as (e, *f), g: h => Stmt=1 Load=a With>z Load=b SetAttr=c Stmt=1 Load=d With>u Unpack=20002 Store=e Store=f Stmt=1 Load=g With>v Pop Stmt=1 Load=h Pop BlockEnd v: BlockEnd u: BlockEnd z:
with a as b[c]:\n  pass => Stmt=1 Load=a With>z Load=b Load=c SetItem Stmt=2 BlockEnd z:
`

const compiledTries = `
try: a\nfinally: b => Stmt=1 Fin>f Stmt=1 Load=a Pop BlockEnd f: Stmt=2 Load=b Pop Again
try: a\nexcept: b => Stmt=1 Try>h Stmt=1 Load=a Pop BlockEnd Jump>y h: Handle=0 Stmt=2 Load=b Pop HandleEnd=0 Jump>y Reraise y:
try: a\nexcept b: c => Stmt=1 Try>h Stmt=1 Load=a Pop BlockEnd Jump>y h: Load=b Match>n Handle=0 Stmt=2 Load=c Pop HandleEnd=0 Jump>y n: Reraise y:
try: a\nexcept b as c: d => Stmt=1 Try>h Stmt=1 Load=a Pop BlockEnd Jump>y h: Load=b Match>n Handle=c Stmt=2 Load=d Pop HandleEnd=c Jump>y n: Reraise y:
try: a\nexcept a as a: a => Stmt=1 Try>h Stmt=1 Load=a Pop BlockEnd Jump>y h: Load=a Match>n Handle=a Stmt=2 Load=a Pop HandleEnd=a Jump>y n: Reraise y:
try: a\nexcept b: c\nelse: d => Stmt=1 Try>h Stmt=1 Load=a Pop BlockEnd Stmt=3 Load=d Pop Jump>y h: Load=b Match>n Handle=0 Stmt=2 Load=c Pop HandleEnd=0 Jump>y n: Reraise y:
try: a\nexcept b: c\nfinally: d => Stmt=1 Fin>f Try>h Stmt=1 Load=a Pop BlockEnd Jump>y h: Load=b Match>n Handle=0 Stmt=2 Load=c Pop HandleEnd=0 Jump>y n: Reraise y: BlockEnd f: Stmt=3 Load=d Pop Again
try: a\nexcept b: c\nexcept (d, e) as f: g\nexcept: h\nelse: i\nfinally: j => Stmt=1 Fin>q Try>r Stmt=1 Load=a Pop BlockEnd Stmt=5 Load=i Pop Jump>y r: Load=b Match>n Handle=0 Stmt=2 Load=c Pop HandleEnd=0 Jump>y n: Args Load=d Add Load=e Add Finish=0 Match>m Handle=f Stmt=3 Load=g Pop HandleEnd=f Jump>y m: Handle=0 Stmt=4 Load=h Pop HandleEnd=0 Jump>y Reraise y: BlockEnd q: Stmt=6 Load=j Pop Again
try:\n  try: a\n  finally: b\nexcept c: d => Stmt=1 Try>h Stmt=2 Fin>f Stmt=2 Load=a Pop BlockEnd f: Stmt=3 Load=b Pop Again BlockEnd Jump>y h: Load=c Match>n Handle=0 Stmt=4 Load=d Pop HandleEnd=0 Jump>y n: Reraise y:
while a:\n  try: break\n  finally: continue => Stmt=1 Loop>z t: Turn Load=a False>x Stmt=2 Fin>f Stmt=2 Break BlockEnd f: Stmt=3 Continue Again Jump>t x: BlockEnd z:
`

const compiledMatches = `
match a:\n  case 1: b => Stmt=1 Load=a Case=0 False>n Stmt=2 Load=b Pop Jump>y n: y: Pop
match a:\n  case 1: b\n  case c if d: e => Stmt=1 Load=a Case=0 False>n Stmt=2 Load=b Pop Jump>y n: Case=1 False>m Load=d False>m Stmt=3 Load=e Pop Jump>y m: y: Pop
match a, b:\n  case _:\n    c => Stmt=1 Args Load=a Add Load=b Add Finish=0 Case=0 False>n Stmt=3 Load=c Pop Jump>y n: y: Pop
match a:\n  case 1:\n    match b:\n      case 2: pass\n  case 1: pass => Stmt=1 Load=a Case=0 False>n Stmt=3 Load=b Case=1 False>u Stmt=4 Jump>v u: v: Pop Jump>y n: Case=2 False>m Stmt=5 Jump>y m: y: Pop
`

const compiledDefs = `
def f(): pass => Stmt=1 Args Func=1 Store=f || Stmt=1 Const=None Return
def f(): return => Stmt=1 Args Func=1 Store=f || Stmt=1 Const=None Return Const=None Return
def f(): return a, 1 => Stmt=1 Args Func=1 Store=f || Stmt=1 Args Load=a Add Const=1 Add Finish=0 Return Const=None Return
def f():\n  global a\n  a = 1 => Stmt=1 Args Func=1 Store=f || Stmt=2 Stmt=3 Const=1 Dup Store=a Pop Const=None Return
def f(a):\n  def g():\n    nonlocal a\n    a = 1 => Stmt=1 Args Func=1 Store=f || Stmt=2 Args Func=2 Store=g Const=None Return || Stmt=3 Stmt=4 Const=1 Dup Store=a Pop Const=None Return
@a\n@b.c\ndef f(x, y=1, *z, w=2, **v): return x => Stmt=3 Load=a Load=b Attr=c Args Const=1 Key=y Const=2 Key=w Func=1 Deco Deco Store=f || Stmt=3 Load=x Return Const=None Return
@a(1)\n\ndef f(): pass => Stmt=3 Load=a Args Const=1 Add Call Args Func=1 Deco Store=f || Stmt=3 Const=None Return
def f(a=b, *, c, d=e): pass => Stmt=1 Args Load=b Key=a Load=e Key=d Func=1 Store=f || Stmt=1 Const=None Return
def f(): yield => Stmt=1 Args Func=1 Store=f || Stmt=1 Const=None Yield Pop Const=None Return
def f(): a = yield b => Stmt=1 Args Func=1 Store=f || Stmt=1 Load=b Yield Dup Store=a Pop Const=None Return
def f(): yield from a => Stmt=1 Args Func=1 Store=f || Stmt=1 Load=a Iter Const=None YieldFrom Pop Const=None Return
def f(): a += yield => Stmt=1 Args Func=1 Store=f || Stmt=1 Load=a Const=None Yield Aug=6 Store=a Const=None Return
class A: pass => Stmt=1 Args Class=1 Store=A || Stmt=1 Const=None Return
class A(): x = 1 => Stmt=1 Args Class=1 Store=A || Stmt=1 Const=1 Dup Store=x Pop Const=None Return
@a\nclass A(b, c.d, k=1): x => Stmt=2 Load=a Args Load=b Add Load=c Attr=d Add Const=1 Key=k Class=1 Deco Store=A || Stmt=2 Load=x Pop Const=None Return
class A:\n  def f(a=lambda: 1): pass\n  class B: pass => Stmt=1 Args Class=1 Store=A || Stmt=2 Args Args Func=3 Key=a Func=2 Store=f Stmt=3 Args Class=4 Store=B Const=None Return || Stmt=2 Const=None Return || Const=1 Return || Stmt=3 Const=None Return
@(lambda x: x)\ndef f(a=[b for b in c]): return lambda: a => Stmt=2 Args Func=4 Args Load=c Iter Comp=2 Key=a Func=1 Deco Store=f || Stmt=2 Args Func=3 Return Const=None Return || t: For>x Store=b Load=b Collect Jump>t x: Pop Return || Load=a Return || Load=x Return
`

func TestP11SimpleStatements(t *testing.T) { wantRows(t, compiledSimple, inModule) }

func TestP11Targets(t *testing.T) { wantRows(t, compiledTargets, inModule) }

func TestP11Augmented(t *testing.T) { wantRows(t, compiledAugmented, inModule) }

func TestP11Blocks(t *testing.T) { wantRows(t, compiledBlocks, inModule) }

func TestP11Tries(t *testing.T) { wantRows(t, compiledTries, inModule) }

func TestP11Matches(t *testing.T) { wantRows(t, compiledMatches, inModule) }

func TestP11Defs(t *testing.T) { wantRows(t, compiledDefs, inModule) }
