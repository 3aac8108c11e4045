package tests

// treeRows is the grammar of the document's chapter 5, a row each: what is
// read, how it is written, and (behind =>) the node of it. A sign in quotes is
// a token; a big word is a kind of token.
//
// ^ behind a name: in a function (f) or not. ~ behind it: in a function, in a
// loop (fl), or not; F, C and L behind these say that it belongs to a function,
// to a class or module, to a loop. A row with ?f or ?l is there only so.
//
// In a node $3 is what the third of the row gives, - an NAbsent, @3 the Text
// of the third, :3 its Line (else that of the row's first token), a number the
// Op; !3 says that the third, a name, may not be one of those of the first.
// Without => a row gives what its first gives.
const treeRows = expressionRows + bracketRows + paramRows + simpleRows + compoundRows + patternRows

const expressionRows = `
e^ = 'lambda' lparams^ ':' e^F => Lambda $2 $4
e^ = or^ 'if' or^ 'else' e^ => Cond $3 $1 $5
e^ = or^
or^ = or^ 'or' and^ => Bool 2 $1 $3
or^ = and^
and^ = and^ 'and' not^ => Bool 1 $1 $3
and^ = not^
not^ = 'not' not^ => Not $2
not^ = bits^
not^ = bits^ sides^ => Compare $1 $2
sides^ = side^
sides^ = sides^ side^ => $1 $2
side^ = '<' bits^ => Cmp 1 $2
side^ = '<=' bits^ => Cmp 2 $2
side^ = '>' bits^ => Cmp 3 $2
side^ = '>=' bits^ => Cmp 4 $2
side^ = '==' bits^ => Cmp 5 $2
side^ = '!=' bits^ => Cmp 6 $2
side^ = 'in' bits^ => Cmp 7 $2
side^ = 'not' 'in' bits^ => Cmp 8 $3
side^ = 'is' bits^ => Cmp 9 $2
side^ = 'is' 'not' bits^ => Cmp 10 $3
bits^ = bits^ '|' xors^ => Binary 1 $1 $3
bits^ = xors^
xors^ = xors^ '^' ands^ => Binary 2 $1 $3
xors^ = ands^
ands^ = ands^ '&' moves^ => Binary 3 $1 $3
ands^ = moves^
moves^ = moves^ '<<' sums^ => Binary 4 $1 $3
moves^ = moves^ '>>' sums^ => Binary 5 $1 $3
moves^ = sums^
sums^ = sums^ '+' terms^ => Binary 6 $1 $3
sums^ = sums^ '-' terms^ => Binary 7 $1 $3
sums^ = terms^
terms^ = terms^ '*' unary^ => Binary 8 $1 $3
terms^ = terms^ '/' unary^ => Binary 9 $1 $3
terms^ = terms^ '//' unary^ => Binary 10 $1 $3
terms^ = terms^ '%' unary^ => Binary 11 $1 $3
terms^ = unary^
unary^ = '+' unary^ => Unary 1 $2
unary^ = '-' unary^ => Unary 2 $2
unary^ = '~' unary^ => Unary 3 $2
unary^ = tail^ '**' unary^ => Binary 12 $1 $3
unary^ = tail^
tail^ = tail^ '.' NAME => Attr @3 $1
tail^ = tail^ '[' subscript^ ']' => Index $1 $3
tail^ = tail^ '(' args^ ')' => Call $1 $3
tail^ = atom^
atom^ = name
atom^ = INT => Int @1
atom^ = FLOAT => Float @1
atom^ = STR => Str @1
atom^ = FSTR^
atom^ = 'None' => Const 0
atom^ = 'False' => Const 1
atom^ = 'True' => Const 2
atom^ = round^
atom^ = '[' ']' => List
atom^ = '[' items^ ']' => List $2
atom^ = '[' items^ ',' ']' => List $2
atom^ = '[' e^ clauses^ ']' => ListComp $2 $3
atom^ = '{' items^ '}' => Set $2
atom^ = '{' items^ ',' '}' => Set $2
atom^ = '{' e^ clauses^ '}' => SetComp $2 $3
atom^ = '{' '}' => Dict
atom^ = '{' pairs^ '}' => Dict $2
atom^ = '{' pairs^ ',' '}' => Dict $2
atom^ = '{' e^ ':' e^ clauses^ '}' => DictComp $2 $4 $5
name = NAME => Name @1
`

const bracketRows = `
round^ = '(' e^ ')' => $2
round^ = '(' ')' => Tuple
round^ = '(' many^ ')' => Tuple $2
round^ = '(' e^ clauses^ ')' => GenExp $2 $3
round^ = '(' NAME ':=' e^ ')' => Walrus @2 $4
?f round^ = '(' 'yield' ')' => Yield
?f round^ = '(' 'yield' list^ ')' => Yield $3
?f round^ = '(' 'yield' 'from' e^ ')' => YieldFrom $4
list^ = e^
list^ = many^ => Tuple $1
many^ = item^ ','
many^ = items^ ',' item^ => $1 $3
many^ = items^ ',' item^ ',' => $1 $3
items^ = item^
items^ = items^ ',' item^ => $1 $3
item^ = e^
item^ = '*' e^ => Star $2
pairs^ = pair^
pairs^ = pairs^ ',' pair^ => $1 $3
pair^ = e^ ':' e^ => Pair $1 $3
pair^ = '**' e^ => KStar $2
clauses^ = clause^
clauses^ = clauses^ clause^ => $1 $2
clause^ = 'for' fortarget^ 'in' or^ conds^ => For $2 $4 $5
conds^ = =>
conds^ = conds^ 'if' or^ => $1 $3
fortarget^ = bits^
fortarget^ = titem^ ',' => Tuple $1
fortarget^ = titems^ ',' titem^ => Tuple $1 $3
fortarget^ = titems^ ',' titem^ ',' => Tuple $1 $3
titems^ = titem^
titems^ = titems^ ',' titem^ => $1 $3
titem^ = bits^
titem^ = '*' bits^ => Star $2
subscript^ = sub^
subscript^ = sub^ ',' => Tuple $1
subscript^ = subs^ ',' sub^ => Tuple $1 $3
subscript^ = subs^ ',' sub^ ',' => Tuple $1 $3
subs^ = sub^
subs^ = subs^ ',' sub^ => $1 $3
sub^ = e^
sub^ = part^ ':' part^ => Slice $1 $3 -
sub^ = part^ ':' part^ ':' part^ => Slice $1 $3 $5
part^ = => -
part^ = e^
args^ = =>
args^ = places^
args^ = places^ ','
args^ = keys^
args^ = keys^ ','
args^ = e^ clauses^ => GenExp $1 $2
places^ = item^
places^ = places^ ',' item^ => $1 $3
keys^ = key^
keys^ = places^ ',' key^ => $1 $3
keys^ = keys^ ',' key^ => $1 $3
key^ = NAME '=' e^ => Key @1 $3
key^ = '**' e^ => KStar $2
bargs^ = =>
bargs^ = bplaces^
bargs^ = bplaces^ ','
bargs^ = bkeys^
bargs^ = bkeys^ ','
bargs^ = e^ clauses^ => GenExp $1 $2
bplaces^ = e^
bplaces^ = bplaces^ ',' e^ => $1 $3
bkeys^ = bkey^
bkeys^ = bplaces^ ',' bkey^ => $1 $3
bkeys^ = bkeys^ ',' bkey^ => $1 $3
bkey^ = NAME '=' e^ => Key @1 $3
`

const paramRows = `
lparams^ = => Params
lparams^ = params^ => Params $1
dparams^ = => Params
dparams^ = params^ => Params $1
dparams^ = params^ ',' => Params $1
params^ = bare^
params^ = preset^
params^ = behind^
params^ = rest^
bare^ = NAME => Param 1 @1
bare^ = bare^ ',' NAME => $1 (Param 1 :3 @3) !3
preset^ = NAME '=' e^ => Param 1 @1 $3
preset^ = bare^ ',' NAME '=' e^ => $1 (Param 1 :3 @3 $5) !3
preset^ = preset^ ',' NAME '=' e^ => $1 (Param 1 :3 @3 $5) !3
plain^ = bare^
plain^ = preset^
behind^ = '*' NAME => Param 2 @2
behind^ = plain^ ',' '*' NAME => $1 (Param 2 :3 @4) !4
behind^ = '*' ',' NAME => Param 3 :3 @3
behind^ = '*' ',' NAME '=' e^ => Param 3 :3 @3 $5
behind^ = plain^ ',' '*' ',' NAME => $1 (Param 3 :5 @5) !5
behind^ = plain^ ',' '*' ',' NAME '=' e^ => $1 (Param 3 :5 @5 $7) !5
behind^ = behind^ ',' NAME => $1 (Param 3 :3 @3) !3
behind^ = behind^ ',' NAME '=' e^ => $1 (Param 3 :3 @3 $5) !3
rest^ = behind^ ',' '**' NAME => $1 (Param 4 :3 @4) !4
rest^ = plain^ ',' '**' NAME => $1 (Param 4 :3 @4) !4
rest^ = '**' NAME => Param 4 @2
`

const simpleRows = `
file = stmts~C END => File $1
stmts~ = =>
stmts~ = stmts~ stmt~ => $1 $2
suite~ = stmt~
suite~ = suite~ stmt~ => $1 $2
stmt~ = line~
stmt~ = compound~
line~ = simples~ LINE
line~ = simples~ ';' LINE
simples~ = simple~
simples~ = simples~ ';' simple~ => $1 $3
simple~ = list^ => Expr $1
simple~ = yield^ => Expr $1
simple~ = assign^ => Assign $1
simple~ = augtarget^ '|=' value^ => Aug 1 $1 $3
simple~ = augtarget^ '^=' value^ => Aug 2 $1 $3
simple~ = augtarget^ '&=' value^ => Aug 3 $1 $3
simple~ = augtarget^ '<<=' value^ => Aug 4 $1 $3
simple~ = augtarget^ '>>=' value^ => Aug 5 $1 $3
simple~ = augtarget^ '+=' value^ => Aug 6 $1 $3
simple~ = augtarget^ '-=' value^ => Aug 7 $1 $3
simple~ = augtarget^ '*=' value^ => Aug 8 $1 $3
simple~ = augtarget^ '/=' value^ => Aug 9 $1 $3
simple~ = augtarget^ '//=' value^ => Aug 10 $1 $3
simple~ = augtarget^ '%=' value^ => Aug 11 $1 $3
simple~ = augtarget^ '**=' value^ => Aug 12 $1 $3
simple~ = 'del' deltarget^ => Del $2
simple~ = 'pass' => Pass
?l simple~ = 'break' => Break
?l simple~ = 'continue' => Continue
?f simple~ = 'return' => Return
?f simple~ = 'return' list^ => Return $2
simple~ = 'raise' => Raise
simple~ = 'raise' e^ => Raise $2
simple~ = 'raise' e^ 'from' e^ => Raise $2 $4
simple~ = 'assert' e^ => Assert $2
simple~ = 'assert' e^ ',' e^ => Assert $2 $4
simple~ = 'global' names => Global $2
simple~ = 'nonlocal' names => Nonlocal $2
simple~ = 'import' name => Import @2 $2
simple~ = 'import' name 'as' name => Import @2 $4
simple~ = 'from' NAME 'import' aliases => From @2 $4
assign^ = target^ '=' value^ => $1 $3
assign^ = target^ '=' assign^ => $1 $3
target^ = list^
augtarget^ = list^
deltarget^ = list^
value^ = list^
value^ = yield^
?f yield^ = 'yield' => Yield
?f yield^ = 'yield' list^ => Yield $2
?f yield^ = 'yield' 'from' e^ => YieldFrom $3
names = name
names = names ',' name => $1 $3
aliases = alias
aliases = aliases ',' alias => $1 $3
alias = name => Alias @1 $1
alias = name 'as' name => Alias @1 $3
`

const compoundRows = `
block~ = ':' line~ => Block $2
block~ = ':' LINE INDENT suite~ DEDENT => Block $4
else~ = =>
else~ = 'else' block~ => $2
compound~ = 'if' e^ block~ elifs~ => If $2 $3 $4
elifs~ = else~
elifs~ = elif~ => Block $1
elif~ = 'elif' e^ block~ elifs~ => If $2 $3 $4
compound~ = 'while' e^ block~L else~ => While $2 $3 $4
compound~ = 'for' fortarget^ 'in' list^ block~L else~ => Loop $2 $4 $5 $6
compound~ = 'try' block~ 'finally' block~ => Try $2 - $4
compound~ = 'try' block~ handlers~ tryelse~ finally~ => Try $2 $3 $4 $5
handlers~ = named~
handlers~ = unnamed~
handlers~ = named~ unnamed~ => $1 $2
named~ = handler~
named~ = named~ handler~ => $1 $2
handler~ = 'except' e^ block~ => Handler $2 $3
handler~ = 'except' e^ 'as' NAME block~ => Handler @4 $2 $5
unnamed~ = 'except' block~ => Handler - $2
tryelse~ = => -
tryelse~ = 'else' block~ => $2
finally~ = => -
finally~ = 'finally' block~ => $2
compound~ = 'with' e^ block~ => With $2 - $3
compound~ = 'with' e^ ',' further~ => With $2 - $4
compound~ = 'with' e^ 'as' withtarget^ block~ => With $2 $4 $5
compound~ = 'with' e^ 'as' withtarget^ ',' further~ => With $2 $4 $6
further~ = with~ => Block $1
with~ = e^ block~ => With $1 - $2
with~ = e^ ',' further~ => With $1 - $3
with~ = e^ 'as' withtarget^ block~ => With $1 $3 $4
with~ = e^ 'as' withtarget^ ',' further~ => With $1 $3 $5
withtarget^ = bits^
compound~ = 'def' NAME '(' dparams^ ')' block~F => Def @2 $4 $6
compound~ = decorators^ 'def' NAME '(' dparams^ ')' block~F => Def :2 @3 $5 $7 $1
compound~ = 'class' NAME bases^ block~C => Class @2 $3 $4
compound~ = decorators^ 'class' NAME bases^ block~C => Class :2 @3 $4 $5 $1
bases^ = => Bases
bases^ = '(' bargs^ ')' => Bases $2
decorators^ = '@' e^ LINE => $2
decorators^ = decorators^ '@' e^ LINE => $1 $3
compound~ = 'match' list^ ':' LINE INDENT cases~ DEDENT => Match $2 $6
cases~ = case~
cases~ = cases~ case~ => $1 $2
case~ = 'case' pattern block~ => Case $2 - $3
case~ = 'case' pattern 'if' e^ block~ => Case $2 $4 $5
`

const patternRows = `
pattern = p
pattern = pmany => PSeq $1
pmany = pitem ','
pmany = pitems ',' pitem => $1 $3
pmany = pitems ',' pitem ',' => $1 $3
pitems = pitem
pitems = pitems ',' pitem => $1 $3
pitem = p
pitem = '*' NAME => PStar @2
p = por
p = por 'as' NAME => PAs @3 $1
por = pclosed
por = psides => POr $1
psides = pclosed '|' pclosed => $1 $3
psides = psides '|' pclosed => $1 $3
pclosed = value => PValue $1
pclosed = NAME => PCapture @1
pclosed = '(' p ')' => $2
pclosed = pseq
pseq = '(' pmany ')' => PSeq $2
pseq = '[' ']' => PSeq
pseq = '[' pitems ']' => PSeq $2
pseq = '[' pitems ',' ']' => PSeq $2
pclosed = '{' '}' => PMap
pclosed = '{' ppairs '}' => PMap $2
pclosed = '{' ppairs ',' '}' => PMap $2
pclosed = '{' prest '}' => PMap $2
pclosed = '{' ppairs ',' prest '}' => PMap $2 $4
ppairs = ppair
ppairs = ppairs ',' ppair => $1 $3
ppair = value ':' p => PPair $1 $3
prest = '**' NAME => PRest @2
pclosed = pclass '(' ')' => PClass $1
pclosed = pclass '(' pplaces ')' => PClass $1 $3
pclosed = pclass '(' pplaces ',' ')' => PClass $1 $3
pclosed = pclass '(' pkeys ')' => PClass $1 $3
pclosed = pclass '(' pkeys ',' ')' => PClass $1 $3
pplaces = p
pplaces = pplaces ',' p => $1 $3
pkeys = NAME '=' p => PKey @1 $3
pkeys = pplaces ',' NAME '=' p => $1 (PKey :3 @3 $5)
pkeys = pkeys ',' NAME '=' p => $1 (PKey :3 @3 $5) !3
pclass = name
pclass = dotted
dotted = name '.' NAME => Attr @3 $1
dotted = dotted '.' NAME => Attr @3 $1
value = dotted
value = INT => Int @1
value = FLOAT => Float @1
value = '-' INT => Unary 2 (Int :2 @2)
value = '-' FLOAT => Unary 2 (Float :2 @2)
value = STR => Str @1
value = 'None' => Const 0
value = 'False' => Const 1
value = 'True' => Const 2
`
