package tests

import (
	"math"
	"math/rand"
	"slices"
	"strings"
	"testing"

	"loop.example/g00009/impl"
)

// wantOkData wants JsonOk to answer so, and JsonText to refuse what it refuses.
func wantOkData(t *testing.T, what string, j impl.Json, want bool) {
	t.Helper()
	if got := impl.JsonOk(j); got != want {
		t.Errorf("%s: %v: %s", what, got, jsonTold(j))
	}
	if got := jsonOkByRule(j); got != want {
		t.Errorf("%s: the rule says %v: %s", what, got, jsonTold(j))
	}
	for indent := range int64(9) {
		if text, ok := impl.JsonText(j, indent); ok && !want || !ok && text != "" {
			t.Errorf("%s: written with %d: %s", what, indent, jsonTold(j))
		}
	}
	if want {
		wantReadBack(t, j)
	}
}

func nodesOf(nodes ...impl.JNode) impl.Json { return impl.Json{Nodes: nodes} }

func TestP18OkLeaves(t *testing.T) {
	for kind := int64(-2); kind <= 12; kind++ {
		wantOkData(t, "a kind alone", leaf(kind, "").json(), kind >= 0 && kind <= 2 || kind >= 5 && kind <= 7)
		for _, text := range []string{"a", "0", "0.0", " ", "\xff"} {
			want := kind == impl.JText && text != "\xff" || kind == impl.JInt && text == "0" || kind == impl.JFloat && text == "0.0"
			wantOkData(t, "a kind with a text", leaf(kind, text).json(), want)
		}
		wantOkData(t, "a kind with a Kid", datum{kind: kind, kids: []datum{leaf(impl.JNull, "")}}.json(), kind == impl.JList)
		wantOkData(t, "a kind with a pair", datum{kind: kind, kids: []datum{pairData("a", leaf(impl.JNull, ""))}}.json(), kind == impl.JDict)
		wantOkData(t, "a kind in a list", listData(leaf(kind, "")).json(), kind >= 0 && kind <= 2 || kind >= 5 && kind <= 7)
	}
	for _, kind := range []int64{math.MaxInt64, math.MinInt64, 1 << 32, 256, 256 + impl.JList} {
		wantOkData(t, "a kind far off", leaf(kind, "").json(), false)
	}
}

func TestP18OkNumbers(t *testing.T) {
	most := power2(4096)
	most.Sub(most, power2(0))
	for _, s := range []string{"0", "1", "-1", "9223372036854775808", "-9223372036854775809", most.String(), "-" + most.String()} {
		wantOkData(t, "an integer", intLeaf(s).json(), true)
		wantOkData(t, "an integer as a float", floatLeaf(s).json(), false)
	}
	for _, s := range []string{"", "-", "-0", "00", "01", "-01", "+1", " 1", "1 ", "1_0", "a", "0x1", "1.0", "1e5", "１", "1\x00", power2(4096).String(), "-" + power2(4096).String(), strings.Repeat("9", 5001), strings.Repeat("0", 5), "inf", "nan"} {
		wantOkData(t, "no integer", intLeaf(s).json(), false)
	}
	for _, s := range []string{"0.0", "-0.0", "1.0", "-1.5", "100.0", "0.0001", "1e+16", "1.5e-07", "5e-324", "1.7976931348623157e+308", "-1.7976931348623157e+308", "1e-05", "9007199254740992.0", "123456789012345.6"} {
		wantOkData(t, "a float", floatLeaf(s).json(), true)
		wantOkData(t, "a float as an integer", intLeaf(s).json(), false)
	}
	for _, s := range []string{"", "nan", "inf", "-inf", "-nan", "NaN", "Infinity", "0", "-0", "1", "1.", ".5", "1.50", "01.0", "+1.0", "1e16", "1E+16", "1e+016", "1.5e-7", "0.00001", "10000000000000000.0", "1e400", "-1e400", "1e-400", " 1.0", "1.0 ", "0.1000000000000000055511151231257827", "1_0.0", "x"} {
		wantOkData(t, "no float", floatLeaf(s).json(), false)
	}
	for _, x := range floatEdges() {
		wantOkData(t, "a float's text", floatLeaf(impl.FloatText(x)).json(), !isNan(x) && !isInf(x))
	}
}

func TestP18OkTexts(t *testing.T) {
	for _, s := range edgeTexts() {
		wantOkData(t, "a text", textLeaf(s).json(), true)
		wantOkData(t, "a text as key", dictData(pairData(s, leaf(impl.JNull, ""))).json(), true)
	}
	for _, s := range noTexts() {
		wantOkData(t, "no text", textLeaf(s).json(), false)
		wantOkData(t, "no text in a list", listData(leaf(impl.JNull, ""), textLeaf(s)).json(), false)
		wantOkData(t, "no text as key", dictData(pairData(s, leaf(impl.JNull, ""))).json(), false)
	}
	for kind := int64(0); kind <= impl.JTrue; kind++ {
		wantOkData(t, "a word with a text", leaf(kind, "null").json(), false)
	}
	wantOkData(t, "a list with a text", datum{kind: impl.JList, text: "a"}.json(), false)
	wantOkData(t, "a dict with a text", datum{kind: impl.JDict, text: "a"}.json(), false)
	wantOkData(t, "a list with a text and an item", datum{impl.JList, "a", []datum{leaf(impl.JNull, "")}}.json(), false)
	wantOkData(t, "a dict with a text and a pair", datum{impl.JDict, "a", []datum{pairData("a", leaf(impl.JNull, ""))}}.json(), false)
}

func TestP18OkPairs(t *testing.T) {
	null := leaf(impl.JNull, "")
	two := func(a string, b string) impl.Json {
		return dictData(pairData(a, null), pairData("k", null), pairData(b, null)).json()
	}
	wantOkData(t, "keys", two("a", "b"), true)
	wantOkData(t, "keys by case", two("a", "A"), true)
	wantOkData(t, "an empty key", two("a", ""), true)
	wantOkData(t, "a key twice", two("a", "a"), false)
	wantOkData(t, "an empty key twice", two("", ""), false)
	wantOkData(t, "a key next to itself", dictData(pairData("a", null), pairData("a", null)).json(), false)
	wantOkData(t, "a key in a dict below", dictData(pairData("a", dictData(pairData("a", null)))).json(), true)
	wantOkData(t, "a key in two dicts", listData(dictData(pairData("a", null)), dictData(pairData("a", null))).json(), true)
	wantOkData(t, "a pair alone", pairData("a", null).json(), false)
	wantOkData(t, "a pair in a list", listData(pairData("a", null)).json(), false)
	wantOkData(t, "a pair among items", listData(null, pairData("a", null), null).json(), false)
	wantOkData(t, "a pair in a pair", dictData(pairData("a", pairData("b", null))).json(), false)
	wantOkData(t, "a dict with a value", dictData(null).json(), false)
	wantOkData(t, "a dict with a text", dictData(textLeaf("a")).json(), false)
	wantOkData(t, "a dict with a dict", dictData(dictData()).json(), false)
	wantOkData(t, "a dict with a value among pairs", dictData(pairData("a", null), null).json(), false)
	wantOkData(t, "a pair without a value", dictData(datum{kind: impl.JPair, text: "a"}).json(), false)
	wantOkData(t, "a pair with two values", dictData(datum{impl.JPair, "a", []datum{null, null}}).json(), false)
}

func TestP18OkOrder(t *testing.T) {
	null, list := impl.JNode{Kind: impl.JNull}, func(kids ...int64) impl.JNode { return impl.JNode{Kind: impl.JList, Kids: kids} }
	wantOkData(t, "no nodes", impl.Json{}, false)
	wantOkData(t, "an empty list of nodes", nodesOf(), false)
	for what, j := range map[string]impl.Json{
		"one":            nodesOf(null),
		"two":            nodesOf(null, null, list(0, 1)),
		"lists in lists": nodesOf(null, list(0), null, list(2), list(1, 3)),
	} {
		wantOkData(t, what, j, true)
	}
	for what, j := range map[string]impl.Json{
		"a second root":           nodesOf(null, null),
		"a node in no Kids":       nodesOf(null, null, list(1)),
		"a node in no Kids last":  nodesOf(null, null, list(0)),
		"a node twice":            nodesOf(null, list(0, 0)),
		"a node twice above":      nodesOf(null, list(0), list(0, 1)),
		"a node in two Kids":      nodesOf(null, list(0), list(0), list(1, 2)),
		"Kids turned round":       nodesOf(null, null, list(1, 0)),
		"itself":                  nodesOf(list(0)),
		"itself too":              nodesOf(null, list(0, 1)),
		"a later one":             nodesOf(list(1), null),
		"a circle":                nodesOf(list(1), list(0)),
		"a Kid below 0":           nodesOf(null, list(-1)),
		"a Kid that is not there": nodesOf(null, list(2)),
		"a Kid far off":           nodesOf(null, list(math.MaxInt64)),
		"a Kid far below":         nodesOf(null, list(math.MinInt64)),
		"a Kid beyond 32 bits":    nodesOf(null, list(1<<32)),
		"no postorder":            nodesOf(null, null, list(0), list(1, 2)),
		"no postorder of two":     nodesOf(null, null, list(0), list(1), list(2, 3)),
		"the root first":          nodesOf(list(1), null),
		"something behind":        nodesOf(null, list(0), null),
		"a list behind":           nodesOf(null, list(0), list()),
		"too many Kids":           nodesOf(null, list(0, 0, 0, 0)),
	} {
		wantOkData(t, what, j, false)
	}
}

func TestP18OkHowMany(t *testing.T) {
	for _, n := range []int{impl.MaxJson - 1, impl.MaxJson, impl.MaxJson + 1, 3 * impl.MaxJson} {
		nulls := slices.Repeat([]datum{leaf(impl.JNull, "")}, n-1)
		wantOkData(t, "nodes in a list", listData(nulls...).json(), n <= impl.MaxJson)
		wantOkData(t, "nodes in two lists", listData(listData(nulls[:n/2]...), listData(nulls[n/2:n-3]...)).json(), n <= impl.MaxJson)
	}
}

func TestP18OkHowDeep(t *testing.T) {
	null := leaf(impl.JNull, "")
	for _, n := range []int{59, 60, 61, 62, 200, 3000} {
		wantOkData(t, "in lists", null.inLists(n).json(), n <= impl.MaxJsonDeep)
		wantOkData(t, "an empty list in lists", listData().inLists(n).json(), n <= impl.MaxJsonDeep)
		wantOkData(t, "a pair in lists", null.inDicts(1).inLists(n-1).json(), n+1 <= impl.MaxJsonDeep)
		wantOkData(t, "beside others", listData(null, null.inLists(n-1), null).json(), n <= impl.MaxJsonDeep)
	}
	wantOkData(t, "in 30 dicts", null.inDicts(30).json(), true)
	wantOkData(t, "in 31 dicts", null.inDicts(31).json(), false)
	wantOkData(t, "in 30 dicts and a list", null.inLists(1).inDicts(30).json(), false)
	wantOkData(t, "a dict in 30 dicts", dictData().inDicts(30).json(), true)
	wantOkData(t, "in 29 dicts and 2 lists", null.inLists(2).inDicts(29).json(), true)
	wantOkData(t, "in 29 dicts and 3 lists", null.inDicts(29).inLists(3).json(), false)
}

// changeData changes one thing of data.
func changeData(r *rand.Rand, j *impl.Json) {
	at := r.Intn(len(j.Nodes))
	n := &j.Nodes[at]
	switch r.Intn(9) {
	case 0:
		n.Kind = r.Int63n(11) - 1
	case 1:
		n.Text = []string{"", "0", "-0", "1.0", "nan", "inf", "a", "\xff", "-1"}[r.Intn(9)]
	case 2:
		n.Kids = append(n.Kids, r.Int63n(int64(len(j.Nodes)+2))-1)
	case 3:
		if len(n.Kids) > 0 {
			n.Kids[r.Intn(len(n.Kids))] += int64(r.Intn(3) - 1)
		}
	case 4:
		if len(n.Kids) > 1 {
			i, k := r.Intn(len(n.Kids)), r.Intn(len(n.Kids))
			n.Kids[i], n.Kids[k] = n.Kids[k], n.Kids[i]
		}
	case 5:
		if len(n.Kids) > 0 {
			n.Kids = n.Kids[:len(n.Kids)-1]
		}
	case 6:
		j.Nodes = slices.Delete(j.Nodes, at, at+1)
	case 7:
		j.Nodes = slices.Insert(j.Nodes, at, impl.JNode{Kind: r.Int63n(9)})
	case 8:
		k := r.Intn(len(j.Nodes))
		j.Nodes[at], j.Nodes[k] = j.Nodes[k], j.Nodes[at]
	}
}

func TestP18OkByTheRule(t *testing.T) {
	inPieces(t, 12000, func(t *testing.T, i int) {
		r := rand.New(rand.NewSource(int64(i)))
		j := drawnDatum(r, 4).json()
		wantOkData(t, "drawn data", j, true)
		for range 4 {
			changed := copyJson(j)
			changeData(r, &changed)
			if len(changed.Nodes) > 0 {
				wantOkData(t, "changed data", changed, jsonOkByRule(changed))
			}
		}
	})
}
