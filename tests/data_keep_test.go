package tests

import (
	"math/rand"
	"slices"
	"strings"
	"testing"

	"loop.example/g00009/impl"
)

var spareJNode = impl.JNode{Kind: 99, Text: "spare"}

// sparedJson is a copy of data with spare room behind every list.
func sparedJson(j impl.Json) impl.Json {
	out := impl.Json{Nodes: spared(j.Nodes, spareJNode)}
	for i, n := range j.Nodes {
		out.Nodes[i].Kids = spared(n.Kids, -9)
	}
	return out
}

func isSparedJson(got impl.Json, j impl.Json) bool {
	for i, n := range j.Nodes {
		if !isSpared(got.Nodes[i].Kids, n.Kids, -9) {
			return false
		}
	}
	spare := got.Nodes[:cap(got.Nodes)][len(j.Nodes):][:3]
	return sameJson(got, j) && !slices.ContainsFunc(spare, func(n impl.JNode) bool { return !sameJNode(n, spareJNode) })
}

func keepData() []impl.Json {
	out := []impl.Json{{}, leaf(impl.JNull, "").json(), textLeaf("a").json(), intLeaf("7").json(), floatLeaf("1.5").json(), intLeaf("-0").json(), listData().json(), pairData("a", listData()).json(), textLeaf(strings.Repeat("a", impl.MaxText)).json()}
	for i := range 300 {
		r := rand.New(rand.NewSource(int64(i) + 4000))
		j := drawnDatum(r, 5).json()
		out = append(out, j)
		if i%3 == 0 {
			j = copyJson(j)
			changeData(r, &j)
			out = append(out, j)
		}
	}
	return out
}

func TestP20DataWrittenTheSameTwice(t *testing.T) {
	for i, j := range keepData() {
		given := sparedJson(j)
		ok := impl.JsonOk(given)
		if !isSparedJson(given, j) || impl.JsonOk(given) != ok {
			t.Fatal("JsonOk writes into data, or answers otherwise the second time:", jsonTold(j))
		}
		for indent := int64(-1); indent <= 9; indent++ {
			text, is := impl.JsonText(given, indent)
			again, isAgain := impl.JsonText(copyJson(j), indent)
			if !isSparedJson(given, j) || text != again || is != isAgain {
				t.Fatal("JsonText writes into data, or answers otherwise the second time:", jsonTold(j))
			}
			for _, n := range given.Nodes {
				wantUnshared(t, i, []string{text}, []string{n.Text})
			}
			if len(text) > 1 && sharesMemory(text, again) {
				t.Fatal("JsonText answers the same memory twice:", jsonTold(j))
			}
		}
	}
}

func overwriteJson(j impl.Json) {
	for _, n := range j.Nodes {
		overwriteList(n.Kids, -77)
	}
	overwriteList(j.Nodes, impl.JNode{Kind: 77, Text: "overwritten"})
}

// keepDataTexts are texts that are read and ones that are not.
func keepDataTexts() []string {
	out := append(dataTexts(), "", "[1", "1e400", "\xff", strings.Repeat("[", 100), `{"a":1,"a":2}`, strings.Repeat(" ", impl.MaxText+1), `["a", "a", ["b"], {"a": "a"}]`)
	for i := range 300 {
		r := rand.New(rand.NewSource(int64(i) + 5000))
		text, _ := impl.JsonText(drawnDatum(r, 5).json(), r.Int63n(9))
		out = append(out, text)
	}
	return out
}

func TestP20DataReadTheSameTwice(t *testing.T) {
	for _, s := range keepDataTexts() {
		given := strings.Clone(s)
		first, at := impl.JsonRead(given)
		kept := copyJson(first)
		second, again := impl.JsonRead(s)
		overwriteJson(first)
		third, last := impl.JsonRead(given)
		if given != s || again != at || last != at || !sameJson(second, kept) || !sameJson(third, kept) {
			t.Fatalf("JsonRead answers otherwise the second time: %s", shown(s))
		}
	}
}

func TestP20DataAreNewMemory(t *testing.T) {
	for i, text := range keepDataTexts() {
		s := strings.Clone(text)
		j, _ := impl.JsonRead(s)
		again, _ := impl.JsonRead(s)
		for k, n := range j.Nodes {
			wantUnshared(t, i, []string{n.Text}, []string{s})
			if listsShare(n.Kids, j.Nodes) {
				t.Fatal("Kids are memory of the nodes", shown(s))
			}
			for at, other := range j.Nodes {
				if at != k && listsShare(n.Kids, other.Kids) || listsShare(n.Kids, again.Nodes[at].Kids) {
					t.Fatal("lists of Kids share memory", shown(s))
				}
			}
		}
		if listsShare(j.Nodes, again.Nodes) {
			t.Fatal("JsonRead answers the same memory twice", shown(s))
		}
		whole := copyJson(j)
		for k := range j.Nodes {
			overwriteList(j.Nodes[k].Kids, -77)
			for at, other := range j.Nodes {
				if at != k && !sameJNode(other, whole.Nodes[at]) {
					t.Fatal("a list is written through another one", shown(s))
				}
			}
			j.Nodes[k].Kids = slices.Clone(whole.Nodes[k].Kids)
		}
	}
}
