package node

import (
	"math"
	"slices"
	"strings"
	"testing"
	"unicode/utf8"

	"keyevent/api"
)

// allKinds are all kinds of nodes.
var allKinds = []int{api.NodeNull, api.NodeBool, api.NodeNumber, api.NodeText, api.NodeList, api.NodeMap}

// noKinds are numbers that are no kind of node.
var noKinds = []int{-1, -2, -5, 6, 7, 8, 255, 256, 1 << 32, 1<<32 + 5, math.MaxInt, math.MinInt}

// goodTexts are texts and names that are valid.
func goodTexts() []string {
	most := strings.Repeat("x", api.MaxBytes)
	return []string{
		"", "a", "A", " ", "\x00", "\x00\x00", "\x7f", "\n", "\"", "\\", "a\x00", "\u00e9", "e\u0301", "\u07ff", "\u0800", "\ud7ff", "\ue000",
		"\ufeff", "\ufffd", "\ufffe", "\uffff", "\U00010000", "\U0010ffff", "one, two",
		most, most[1:], strings.Repeat("\u00e9", api.MaxBytes/2), strings.Repeat("\U0010ffff", api.MaxBytes/4), most[3:] + "\u20ac",
	}
}

// badTexts are texts and names that are not valid.
func badTexts() []string {
	most := strings.Repeat("x", api.MaxBytes)
	return []string{
		"\x80", "\xbf", "\xc0", "\xff", "\xfe", "\xc3", "\xe2\x82", "\xf0\x9f\x98", "\xc0\x80", "\xc1\xbf", "\xe0\x80\x80", "\xe0\x9f\xbf",
		"\xed\xa0\x80", "\xed\xbf\xbf", "\xf0\x80\x80\x80", "\xf0\x8f\xbf\xbf", "\xf4\x90\x80\x80", "\xf5\x80\x80\x80", "\xf8\x88\x80\x80\x80",
		"a\xff", "\xffa", "a\xc3b", "\u00e9\xa9", "\xc3\xc3\xa9", most[1:] + "\xff", "\xff" + most[1:],
		most + "x", most + most, most[1:] + "\u00e9", strings.Repeat("\u00e9", api.MaxBytes/2) + "x", strings.Repeat("\U0010ffff", api.MaxBytes/4+1),
	}
}

// repeated returns a list of so many numbers.
func repeated(count int) []api.Node {
	var l []api.Node
	for i := range count {
		l = append(l, api.Node{Kind: api.NodeNumber, Number: i})
	}
	return l
}

// namesOf returns so many names, all different.
func namesOf(count int) []string {
	var l []string
	for i := range count {
		l = append(l, "n"+string([]byte{byte('a' + i/26%26), byte('a' + i%26)}))
	}
	return l
}

// mapOf returns a map of so many numbers.
func mapOf(count int) api.Node {
	return api.Node{Kind: api.NodeMap, Names: namesOf(count), Items: repeated(count)}
}

// wrapped returns n within so many nodes, of the kinds of turns, again and
// again.
func wrapped(n api.Node, levels int, turns ...int) api.Node {
	for i := range levels {
		outer := api.Node{Kind: turns[i%len(turns)], Items: []api.Node{n}}
		if outer.Kind == api.NodeMap {
			outer.Names = []string{"in"}
		}
		n = outer
	}
	return n
}

// flat are valid nodes without items.
func flat() []api.Node {
	return []api.Node{
		{},
		{Kind: api.NodeBool}, {Kind: api.NodeBool, Bool: true},
		{Kind: api.NodeNumber}, {Kind: api.NodeNumber, Number: 1}, {Kind: api.NodeNumber, Number: -1},
		{Kind: api.NodeNumber, Number: math.MaxInt}, {Kind: api.NodeNumber, Number: math.MinInt}, {Kind: api.NodeNumber, Number: api.MaxNumber + 1},
		{Kind: api.NodeText}, {Kind: api.NodeText, Text: "a"}, {Kind: api.NodeText, Text: "\u00e9"},
		{Kind: api.NodeList}, {Kind: api.NodeMap},
	}
}

// samples are valid nodes of each kind, and lists and maps within one another.
// No two of them are equal or share memory.
func samples() []api.Node {
	l := flat()
	inner := api.Node{Kind: api.NodeMap, Names: []string{"", "x"}, Items: []api.Node{{}, {Kind: api.NodeList, Items: flat()}}}
	l = append(l,
		api.Node{Kind: api.NodeList, Items: flat()},
		api.Node{Kind: api.NodeMap, Names: namesOf(len(l)), Items: flat()},
		api.Node{Kind: api.NodeList, Items: []api.Node{inner, {}, inner}},
		api.Node{Kind: api.NodeMap, Names: []string{"b", "a"}, Items: []api.Node{inner, inner}},
		api.Node{Kind: api.NodeMap, Names: []string{"a", "b"}, Items: []api.Node{inner, inner}},
		api.Node{Kind: api.NodeList, Items: repeated(api.MaxItems)}, mapOf(api.MaxItems),
		wrapped(api.Node{}, api.MaxDepth-1, api.NodeList), wrapped(api.Node{}, api.MaxDepth-1, api.NodeMap),
		wrapped(api.Node{}, api.MaxDepth-1, api.NodeMap, api.NodeList),
	)
	for i, n := range l {
		l[i] = twin(n)
	}
	return l
}

// broken are nodes that are not valid, each for one reason.
func broken() []api.Node {
	one := []api.Node{{}}
	l := []api.Node{
		{Kind: 6}, {Kind: -1}, {Bool: true}, {Number: 1}, {Text: "x"}, {Items: one}, {Names: []string{"a"}},
		{Kind: api.NodeBool, Number: 1}, {Kind: api.NodeNumber, Text: "x"}, {Kind: api.NodeText, Items: one},
		{Kind: api.NodeText, Text: "\xff"}, {Kind: api.NodeText, Text: strings.Repeat("x", api.MaxBytes+1)},
		{Kind: api.NodeList, Names: []string{"a"}, Items: one}, {Kind: api.NodeList, Items: []api.Node{{Kind: 9}}},
		{Kind: api.NodeList, Items: make([]api.Node, api.MaxItems+1)}, mapOf(api.MaxItems + 1),
		{Kind: api.NodeMap, Names: []string{"a", "a"}, Items: make([]api.Node, 2)},
		{Kind: api.NodeMap, Names: []string{"a", "b"}, Items: one}, {Kind: api.NodeMap, Names: []string{"a"}, Items: make([]api.Node, 2)},
		{Kind: api.NodeMap, Names: []string{"\xff"}, Items: one},
		wrapped(api.Node{}, api.MaxDepth, api.NodeList), wrapped(api.Node{}, api.MaxDepth, api.NodeMap),
	}
	for i, n := range l {
		l[i] = twin(n)
	}
	return l
}

// same reports whether two nodes are equal in all parts, without the package.
func same(a, b api.Node) bool {
	if a.Kind != b.Kind || a.Bool != b.Bool || a.Number != b.Number || a.Text != b.Text {
		return false
	}
	if len(a.Names) != len(b.Names) || len(a.Items) != len(b.Items) {
		return false
	}
	for i := range a.Names {
		if a.Names[i] != b.Names[i] {
			return false
		}
	}
	for i := range a.Items {
		if !same(a.Items[i], b.Items[i]) {
			return false
		}
	}
	return true
}

// twin returns a copy of n that shares no memory with it, without the package.
func twin(n api.Node) api.Node {
	out := api.Node{Kind: n.Kind, Bool: n.Bool, Number: n.Number, Text: n.Text}
	for _, name := range n.Names {
		out.Names = append(out.Names, name)
	}
	for _, item := range n.Items {
		out.Items = append(out.Items, twin(item))
	}
	return out
}

// height returns how deep n is nested.
func height(n api.Node) int {
	deepest := 0
	for _, item := range n.Items {
		deepest = max(deepest, height(item))
	}
	return deepest + 1
}

// wellFormed is the definition of a valid node, but for its height.
func wellFormed(n api.Node) bool {
	if !slices.Contains(allKinds, n.Kind) || len(n.Items) > api.MaxItems {
		return false
	}
	bare := api.Node{Kind: n.Kind}
	switch n.Kind {
	case api.NodeBool:
		bare.Bool = n.Bool
	case api.NodeNumber:
		bare.Number = n.Number
	case api.NodeText:
		bare.Text = n.Text
	case api.NodeList:
		bare.Items = n.Items
	case api.NodeMap:
		bare.Names, bare.Items = n.Names, n.Items
	}
	if !same(n, bare) || n.Kind == api.NodeMap && len(n.Names) != len(n.Items) {
		return false
	}
	for i, s := range append([]string{n.Text}, n.Names...) {
		if len(s) > api.MaxBytes || !utf8.ValidString(s) || i > 0 && slices.Contains(n.Names[:i-1], s) {
			return false
		}
	}
	return !slices.ContainsFunc(n.Items, func(item api.Node) bool { return !wellFormed(item) })
}

// valid is the definition of a valid node.
func valid(n api.Node) bool {
	return wellFormed(n) && height(n) <= api.MaxDepth
}

// spoil writes other values into all memory that n has, also beyond the lengths
// of its slices.
func spoil(n api.Node) {
	names, items := n.Names[:cap(n.Names)], n.Items[:cap(n.Items)]
	for i := range names {
		names[i] = "spoilt"
	}
	for i := range items {
		spoil(items[i])
		items[i] = api.Node{Kind: 77, Text: "spoilt"}
	}
}

// show logs what a failed test was about, without strings of up to MaxBytes.
func show(t *testing.T, what string, n api.Node) {
	t.Helper()
	t.Logf("%s: kind %d, number %d, text %.16q, %d names, %d items, height %d", what, n.Kind, n.Number, n.Text, len(n.Names), len(n.Items), height(n))
}

func checkValid(t *testing.T, n api.Node, want bool) {
	t.Helper()
	before := twin(n)
	if got := Valid(n); got != want {
		t.Errorf("Valid: %v; want %v", got, want)
		show(t, "node", n)
	}
	if !same(n, before) {
		t.Error("Valid changes its argument")
		show(t, "node", before)
	}
}

// checkGet checks that the item is want, and that it shares no memory.
func checkGet(t *testing.T, n api.Node, name string, want api.Node) {
	t.Helper()
	before, expected := twin(n), twin(want)
	got, ok := Get(n, name)
	if !ok || !same(got, expected) {
		t.Errorf("Get(%.16q): %v", name, ok)
		show(t, "got", got)
		show(t, "want", expected)
	}
	spoil(got)
	if !same(n, before) {
		t.Errorf("Get(%.16q) changes its argument, or shares memory with it", name)
	}
}

// checkNotGot checks that there is no such item.
func checkNotGot(t *testing.T, n api.Node, name string) {
	t.Helper()
	if got, ok := Get(n, name); ok || !same(got, api.Node{}) {
		t.Errorf("Get(%.16q): %v; want nothing", name, ok)
		show(t, "got", got)
	}
}

// checkPut checks the map that results, that what was put is got and nothing
// else changes, and that nothing shares memory.
func checkPut(t *testing.T, n api.Node, name string, value, want api.Node) {
	t.Helper()
	mapBefore, valueBefore, expected := twin(n), twin(value), twin(want)
	got, e := Put(n, name, value)
	if e != api.OK || !same(got, expected) {
		t.Errorf("Put(%.16q): %d", name, e)
		show(t, "got", got)
		show(t, "want", expected)
		return
	}
	if !same(n, mapBefore) || !same(value, valueBefore) {
		t.Errorf("Put(%.16q) changes an argument", name)
	}
	if !valid(got) {
		t.Errorf("Put(%.16q) gives a map that is not valid", name)
	}
	checkGet(t, got, name, valueBefore)
	for i, other := range mapBefore.Names {
		if other != name {
			checkGet(t, got, other, mapBefore.Items[i])
		}
	}
	spoil(got)
	if !same(n, mapBefore) || !same(value, valueBefore) {
		t.Errorf("Put(%.16q): the result shares memory with an argument", name)
	}
	again, _ := Put(n, name, value)
	spoil(n)
	spoil(value)
	if !same(again, expected) {
		t.Errorf("Put(%.16q): an argument shares memory with the result", name)
	}
}

// checkNotPut checks that there is an error and no map.
func checkNotPut(t *testing.T, n api.Node, name string, value api.Node) {
	t.Helper()
	mapBefore, valueBefore := twin(n), twin(value)
	if got, e := Put(n, name, value); e != api.ErrInvalid || !same(got, api.Node{}) {
		t.Errorf("Put(%.16q): %d; want %d alone", name, e, api.ErrInvalid)
		show(t, "map", n)
		show(t, "value", value)
		show(t, "got", got)
	}
	if !same(n, mapBefore) || !same(value, valueBefore) {
		t.Errorf("Put(%.16q) changes an argument", name)
	}
}

// withRoom returns n with memory beyond the lengths of its slices, and a
// function that reports whether that memory is as it was.
func withRoom(n api.Node) (api.Node, func() bool) {
	names := append(append([]string(nil), n.Names...), "beyond", "farther")
	items := append(append([]api.Node(nil), n.Items...), api.Node{Kind: 41}, api.Node{Kind: 42})
	n.Names, n.Items = names[:len(n.Names)], items[:len(n.Items)]
	return n, func() bool {
		beyond, more := names[len(n.Names):], items[len(n.Items):]
		return slices.Equal(beyond, []string{"beyond", "farther"}) && same(more[0], api.Node{Kind: 41}) && same(more[1], api.Node{Kind: 42})
	}
}

// P5.1: Valid

func TestValidNodes(t *testing.T) {
	for _, n := range samples() {
		checkValid(t, n, true)
	}
}

func TestNodesThatAreNotValid(t *testing.T) {
	for _, n := range broken() {
		checkValid(t, n, false)
		// Nor is what has them anywhere.
		for i := range 3 {
			l := repeated(3)
			l[i] = n
			checkValid(t, api.Node{Kind: api.NodeList, Items: l}, false)
			checkValid(t, api.Node{Kind: api.NodeMap, Names: namesOf(3), Items: l}, false)
			checkValid(t, wrapped(api.Node{Kind: api.NodeList, Items: l}, 4, api.NodeMap, api.NodeList), false)
		}
	}
}

func TestKindsOfNodes(t *testing.T) {
	for _, kind := range noKinds {
		checkValid(t, api.Node{Kind: kind}, false)
		checkValid(t, wrapped(api.Node{Kind: kind}, 1, api.NodeMap), false)
	}
	found := 0
	for kind := -300; kind <= 300; kind++ {
		if Valid(api.Node{Kind: kind}) {
			found++
		}
	}
	if found != len(allKinds) {
		t.Error("kinds:", found)
	}
}

func TestFieldsThatAKindDoesNotHave(t *testing.T) {
	for _, kind := range allKinds {
		isList, isMap := kind == api.NodeList, kind == api.NodeMap
		checkValid(t, api.Node{Kind: kind, Bool: true}, kind == api.NodeBool)
		for _, number := range []int{1, -1, math.MaxInt, math.MinInt} {
			checkValid(t, api.Node{Kind: kind, Number: number}, kind == api.NodeNumber)
		}
		for _, text := range []string{"x", "\x00", " "} {
			checkValid(t, api.Node{Kind: kind, Text: text}, kind == api.NodeText)
		}
		checkValid(t, api.Node{Kind: kind, Items: make([]api.Node, 1)}, isList)
		checkValid(t, api.Node{Kind: kind, Names: make([]string, 1)}, false)
		checkValid(t, api.Node{Kind: kind, Names: make([]string, 1), Items: make([]api.Node, 1)}, isMap)
		for _, n := range []api.Node{{Bool: true}, {Number: 1}, {Text: "x"}} {
			n.Kind, n.Items = kind, make([]api.Node, 1)
			if isMap {
				n.Names = []string{"a"}
			}
			checkValid(t, n, false)
		}
	}
}

// nil and empty lists mean the same.
func TestEmptyLists(t *testing.T) {
	for _, n := range flat() {
		empty := n
		empty.Names, empty.Items = []string{}, []api.Node{}
		checkValid(t, empty, true)
		if !Same(n, empty) || !Same(empty, n) {
			t.Errorf("Same of kind %d: nil and empty lists differ", n.Kind)
		}
		empty.Names, empty.Items = make([]string, 0, 3), make([]api.Node, 0, 3)
		checkValid(t, empty, true)
	}
}

func TestTextsOfNodes(t *testing.T) {
	for _, s := range goodTexts() {
		checkValid(t, api.Node{Kind: api.NodeText, Text: s}, true)
		checkValid(t, api.Node{Kind: api.NodeMap, Names: []string{s}, Items: make([]api.Node, 1)}, true)
	}
	for _, s := range badTexts() {
		checkValid(t, api.Node{Kind: api.NodeText, Text: s}, false)
		for i := range 3 {
			n := mapOf(3)
			n.Names[i] = s
			checkValid(t, n, false)
		}
	}
	checkValid(t, api.Node{Kind: api.NodeMap, Names: goodTexts(), Items: repeated(len(goodTexts()))}, true)
}

func TestEachByteAsText(t *testing.T) {
	for c := range 256 {
		s := string([]byte{byte(c)})
		checkValid(t, api.Node{Kind: api.NodeText, Text: s}, c < 128)
		checkValid(t, api.Node{Kind: api.NodeMap, Names: []string{s}, Items: make([]api.Node, 1)}, c < 128)
	}
}

func TestNumbersOfItems(t *testing.T) {
	for _, count := range []int{0, 1, 2, 255, 256, 257, 258, 512, 1 << 12} {
		checkValid(t, api.Node{Kind: api.NodeList, Items: repeated(count)}, count <= api.MaxItems)
		m := api.Node{Kind: api.NodeMap, Items: repeated(count)}
		for i := range count {
			m.Names = append(m.Names, strings.Repeat("x", i))
		}
		checkValid(t, m, count <= api.MaxItems)
	}
	full := api.Node{Kind: api.NodeList}
	for range api.MaxItems {
		full.Items = append(full.Items, api.Node{Kind: api.NodeList, Items: repeated(api.MaxItems)})
	}
	checkValid(t, full, true)
	full.Items[api.MaxItems-1].Items = repeated(api.MaxItems + 1)
	checkValid(t, full, false)
}

func TestNamesAndItems(t *testing.T) {
	for names := range 4 {
		for items := range 4 {
			n := api.Node{Kind: api.NodeMap, Names: namesOf(names), Items: repeated(items)}
			checkValid(t, n, names == items)
		}
	}
	checkValid(t, api.Node{Kind: api.NodeMap, Names: namesOf(api.MaxItems), Items: repeated(api.MaxItems - 1)}, false)
	checkValid(t, api.Node{Kind: api.NodeMap, Names: namesOf(api.MaxItems - 1), Items: repeated(api.MaxItems)}, false)
}

func TestNamesThatOccurTwice(t *testing.T) {
	for i := range 5 {
		for j := range 5 {
			n := mapOf(5)
			n.Names[i] = n.Names[j]
			checkValid(t, n, i == j)
		}
	}
	most := mapOf(api.MaxItems)
	most.Names[api.MaxItems-1] = most.Names[0]
	checkValid(t, most, false)
	checkValid(t, api.Node{Kind: api.NodeMap, Names: []string{"", ""}, Items: make([]api.Node, 2)}, false)
	long := strings.Repeat("x", api.MaxBytes)
	checkValid(t, api.Node{Kind: api.NodeMap, Names: []string{long, long}, Items: make([]api.Node, 2)}, false)
	// Names that look alike are different, and so are those of other maps.
	alike := []string{"", "\x00", "a", "A", "a ", "a\x00", "\u00e9", "e\u0301", long, long[1:], long[1:] + "y"}
	checkValid(t, api.Node{Kind: api.NodeMap, Names: alike, Items: repeated(len(alike))}, true)
	checkValid(t, wrapped(mapOf(3), 3, api.NodeMap), true)
}

func TestNesting(t *testing.T) {
	for _, turns := range [][]int{{api.NodeList}, {api.NodeMap}, {api.NodeList, api.NodeMap}, {api.NodeMap, api.NodeMap, api.NodeList}} {
		for _, n := range flat() {
			for levels := range 12 {
				checkValid(t, wrapped(n, levels, turns...), levels+1 <= api.MaxDepth)
			}
		}
		// A node with items is one deeper than they are.
		for _, n := range []api.Node{mapOf(2), {Kind: api.NodeList, Items: repeated(2)}} {
			checkValid(t, wrapped(n, api.MaxDepth-2, turns...), true)
			checkValid(t, wrapped(n, api.MaxDepth-1, turns...), false)
		}
		// The deepest item counts, wherever it is.
		for i := range 3 {
			for levels := api.MaxDepth - 3; levels < api.MaxDepth; levels++ {
				l := repeated(3)
				l[i] = wrapped(api.Node{}, levels, turns...)
				checkValid(t, api.Node{Kind: api.NodeList, Items: l}, levels+2 <= api.MaxDepth)
			}
		}
	}
}

// Valid need not look at all of a node that is far too deep.
func TestNestingWithoutEnd(t *testing.T) {
	l := make([]api.Node, api.MaxItems)
	for i := range l {
		l[i] = api.Node{Kind: api.NodeList, Items: l}
	}
	endless := api.Node{Kind: api.NodeList, Items: l}
	if Valid(endless) {
		t.Error("Valid of a list that contains itself")
	}
	if n, e := Put(mapOf(1), "a", endless); e != api.ErrInvalid || !same(n, api.Node{}) {
		t.Error("Put of a list that contains itself:", e)
	}
	m := api.Node{Kind: api.NodeMap, Names: namesOf(api.MaxItems), Items: l}
	if n, e := Put(m, "a", api.Node{}); e != api.ErrInvalid || !same(n, api.Node{}) {
		t.Error("Put on a map of lists that contain themselves:", e)
	}
}

// P5.1: Get

func TestGetOfEachName(t *testing.T) {
	for _, count := range []int{1, 2, 3, api.MaxItems} {
		n := mapOf(count)
		for i, name := range namesOf(count) {
			checkGet(t, n, name, n.Items[i])
			checkNotGot(t, n, name+" ")
			checkNotGot(t, n, name[:1])
		}
	}
	all := api.Node{Kind: api.NodeMap, Names: namesOf(len(samples())), Items: samples()}
	for i, n := range samples() {
		checkGet(t, all, all.Names[i], n)
	}
	texts := api.Node{Kind: api.NodeMap, Names: goodTexts(), Items: repeated(len(goodTexts()))}
	for i, s := range goodTexts() {
		checkGet(t, texts, s, api.Node{Kind: api.NodeNumber, Number: i})
	}
}

func TestGetOfNamesThatAreNotThere(t *testing.T) {
	for _, n := range []api.Node{{Kind: api.NodeMap}, mapOf(1), mapOf(3), wrapped(mapOf(3), 1, api.NodeMap)} {
		for _, name := range []string{"", "x", "NAA", "naaa", "na", "\xff", "\x00", strings.Repeat("x", api.MaxBytes+1)} {
			checkNotGot(t, n, name)
		}
	}
	checkNotGot(t, wrapped(mapOf(3), 1, api.NodeMap), "naa")
}

func TestGetOfNodesThatAreNoMap(t *testing.T) {
	for _, kind := range append(slices.Clone(noKinds), allKinds...) {
		if kind == api.NodeMap {
			continue
		}
		n := mapOf(3)
		n.Kind = kind
		for _, name := range append(namesOf(3), "", "x") {
			checkNotGot(t, n, name)
		}
	}
	for _, n := range flat() {
		checkNotGot(t, n, "")
	}
}

func TestGetOfMapsThatAreNotValid(t *testing.T) {
	one, two, three := api.Node{Kind: api.NodeNumber, Number: 1}, api.Node{Kind: api.NodeNumber, Number: 2}, api.Node{Kind: 9, Text: "\xff"}
	twice := api.Node{Kind: api.NodeMap, Names: []string{"b", "a", "a", "b"}, Items: []api.Node{one, two, three, one}}
	checkGet(t, twice, "a", two)
	checkGet(t, twice, "b", one)
	for _, x := range []struct {
		names []string
		items []api.Node
	}{
		{[]string{"a", "b", "c"}, []api.Node{one, three}},
		{[]string{"a", "b"}, []api.Node{one, three, two}},
		{[]string{"a", "b", "a", "b", "c", "c"}, []api.Node{one, three, two}},
	} {
		n := api.Node{Kind: api.NodeMap, Names: x.names, Items: x.items}
		checkGet(t, n, "a", one)
		checkGet(t, n, "b", three)
		checkNotGot(t, n, "c")
		checkNotGot(t, n, "")
	}
	checkNotGot(t, api.Node{Kind: api.NodeMap, Names: []string{"a"}}, "a")
	checkNotGot(t, api.Node{Kind: api.NodeMap, Items: []api.Node{one}}, "")
	for _, item := range broken() {
		for _, name := range []string{"a", "", "\xff", strings.Repeat("x", api.MaxBytes+1)} {
			n := api.Node{Kind: api.NodeMap, Bool: true, Number: 3, Text: "x", Names: []string{name}, Items: []api.Node{item}}
			checkGet(t, n, name, item)
			checkNotGot(t, n, name+"x")
		}
	}
	checkGet(t, mapOf(api.MaxItems+50), namesOf(api.MaxItems + 50)[api.MaxItems+49], api.Node{Kind: api.NodeNumber, Number: api.MaxItems + 49})
}

// A name beyond the length of the list is not there.
func TestGetLeavesWhatLiesBeyondTheLength(t *testing.T) {
	n, asItWas := withRoom(mapOf(2))
	checkNotGot(t, n, "beyond")
	checkNotGot(t, n, "farther")
	n.Names = n.Names[:3]
	checkNotGot(t, n, "beyond")
	n.Names = n.Names[:2]
	if !asItWas() {
		t.Error("Get changes what lies beyond the length of a list")
	}
}

// P5.1: Put

// A name that is there keeps its place.
func TestPutOfANameThatIsThere(t *testing.T) {
	for _, count := range []int{1, 2, 3, 5} {
		for i := range count {
			for _, value := range samples() {
				if height(value) == api.MaxDepth {
					continue
				}
				want := mapOf(count)
				want.Items[i] = value
				checkPut(t, mapOf(count), namesOf(count)[i], value, want)
			}
		}
	}
}

func TestPutOfANewName(t *testing.T) {
	for _, count := range []int{0, 1, 2, 3, 5} {
		for _, name := range append(goodTexts(), "other") {
			value := api.Node{Kind: api.NodeList, Items: flat()}
			want := mapOf(count)
			want.Names, want.Items = append(want.Names, name), append(want.Items, value)
			checkPut(t, mapOf(count), name, value, want)
		}
	}
	for _, value := range samples() {
		if height(value) < api.MaxDepth {
			checkPut(t, api.Node{Kind: api.NodeMap}, "", value, api.Node{Kind: api.NodeMap, Names: []string{""}, Items: []api.Node{value}})
		}
	}
}

func TestPutOfNames(t *testing.T) {
	m := api.Node{Kind: api.NodeMap}
	for i, name := range goodTexts() {
		next, e := Put(m, name, api.Node{Kind: api.NodeNumber, Number: i})
		if e != api.OK || !slices.Equal(next.Names, goodTexts()[:i+1]) {
			t.Fatalf("Put(%.16q): %d, %d names", name, e, len(next.Names))
		}
		m = next
	}
	for _, name := range badTexts() {
		checkNotPut(t, m, name, api.Node{})
		checkNotPut(t, api.Node{Kind: api.NodeMap}, name, api.Node{})
	}
}

func TestPutOnNodesThatAreNoMap(t *testing.T) {
	for _, n := range samples() {
		if n.Kind != api.NodeMap {
			checkNotPut(t, n, "a", api.Node{})
			checkNotPut(t, n, "", n)
		}
	}
	for _, kind := range append(slices.Clone(noKinds), allKinds...) {
		if kind != api.NodeMap {
			n := mapOf(2)
			n.Kind = kind
			checkNotPut(t, n, "naa", api.Node{})
			checkNotPut(t, n, "other", api.Node{})
		}
	}
}

func TestPutOnMapsThatAreNotValid(t *testing.T) {
	for _, n := range broken() {
		checkNotPut(t, n, "a", api.Node{})
		checkNotPut(t, n, "other", api.Node{Kind: api.NodeText, Text: "x"})
		for i := range 3 {
			// Also where the map that would result is valid.
			m := mapOf(3)
			m.Items[i] = n
			for _, name := range append(namesOf(3), "other") {
				checkNotPut(t, m, name, api.Node{})
			}
		}
	}
	for _, m := range []api.Node{
		{Bool: true}, {Number: 1}, {Text: "x"},
		{Names: []string{"a"}}, {Items: make([]api.Node, 1)}, {Names: []string{"a", "a"}, Items: make([]api.Node, 1)},
		{Names: []string{"a", "b", "a"}, Items: make([]api.Node, 3)}, {Names: []string{"a", "b"}, Items: make([]api.Node, 1)},
	} {
		m.Kind = api.NodeMap
		for _, name := range []string{"a", "b", "c"} {
			checkNotPut(t, m, name, api.Node{})
		}
	}
}

func TestPutOfValuesThatAreNotValid(t *testing.T) {
	for _, value := range broken() {
		for _, count := range []int{0, 1, 3} {
			for _, name := range append(namesOf(count), "other", "") {
				checkNotPut(t, mapOf(count), name, value)
			}
		}
		checkNotPut(t, mapOf(2), "nab", wrapped(value, 2, api.NodeMap, api.NodeList))
	}
}

func TestPutOnFullMaps(t *testing.T) {
	full := mapOf(api.MaxItems)
	value := api.Node{Kind: api.NodeText, Text: "x"}
	for _, i := range []int{0, 1, api.MaxItems - 1} {
		want := mapOf(api.MaxItems)
		want.Items[i] = value
		checkPut(t, mapOf(api.MaxItems), full.Names[i], value, want)
	}
	checkNotPut(t, full, "other", value)
	checkNotPut(t, full, "", api.Node{})
	almost, want := mapOf(api.MaxItems-1), mapOf(api.MaxItems-1)
	want.Names, want.Items = append(want.Names, "other"), append(want.Items, value)
	checkPut(t, almost, "other", value, want)
}

func TestPutOfDeepValues(t *testing.T) {
	for _, turns := range [][]int{{api.NodeList}, {api.NodeMap}, {api.NodeMap, api.NodeList}} {
		deepest := wrapped(api.Node{}, api.MaxDepth-2, turns...)
		checkPut(t, mapOf(1), "a", twin(deepest), api.Node{Kind: api.NodeMap, Names: []string{"naa", "a"}, Items: []api.Node{mapOf(1).Items[0], deepest}})
		checkPut(t, mapOf(1), "naa", twin(deepest), api.Node{Kind: api.NodeMap, Names: []string{"naa"}, Items: []api.Node{deepest}})
		// The value is valid, the map is not.
		deeper := wrapped(api.Node{}, api.MaxDepth-1, turns...)
		checkValid(t, deeper, true)
		checkNotPut(t, mapOf(1), "a", deeper)
		checkNotPut(t, mapOf(1), "naa", deeper)
		checkNotPut(t, api.Node{Kind: api.NodeMap}, "a", deeper)
		checkNotPut(t, mapOf(1), "a", wrapped(api.Node{}, 300, turns...))
	}
	deep := wrapped(api.Node{}, api.MaxDepth-1, api.NodeMap)
	checkPut(t, twin(deep), "in", api.Node{}, api.Node{Kind: api.NodeMap, Names: []string{"in"}, Items: make([]api.Node, 1)})
	checkPut(t, twin(deep), "b", mapOf(2), api.Node{Kind: api.NodeMap, Names: []string{"in", "b"}, Items: []api.Node{deep.Items[0], mapOf(2)}})
	checkNotPut(t, deep, "b", deep)
}

// What lies beyond the length of a list is neither read nor changed.
func TestPutLeavesWhatLiesBeyondTheLength(t *testing.T) {
	for _, count := range []int{0, 1, 3} {
		for _, name := range append(namesOf(count), "beyond", "other") {
			n, asItWas := withRoom(mapOf(count))
			value, valueAsItWas := withRoom(api.Node{Kind: api.NodeList, Items: repeated(2)})
			got, e := Put(n, name, value)
			if e != api.OK || !asItWas() || !valueAsItWas() {
				t.Errorf("Put(%q) on %d items changes what lies beyond: %d", name, count, e)
			}
			spoil(got)
			if !asItWas() || !valueAsItWas() {
				t.Errorf("Put(%q) on %d items shares what lies beyond", name, count)
			}
		}
	}
}

// One value that is put twice, or a map into itself, gives separate copies.
func TestPutOfOneValueTwice(t *testing.T) {
	value := api.Node{Kind: api.NodeList, Items: repeated(2)}
	m, e := Put(api.Node{Kind: api.NodeMap}, "a", value)
	if e == api.OK {
		m, e = Put(m, "b", value)
	}
	if e == api.OK {
		m, e = Put(m, "c", m)
	}
	if e != api.OK || len(m.Items) != 3 {
		t.Fatal("Put:", e)
	}
	want := twin(m)
	spoil(value)
	spoil(m.Items[0])
	if !same(m.Items[1], want.Items[1]) || !same(m.Items[2], want.Items[2]) {
		t.Error("one item shares memory with another one")
	}
	spoil(m.Items[2])
	if !same(m.Items[1], want.Items[1]) {
		t.Error("an item shares memory with the map that was put")
	}
}

// P5.2: Same

func TestSameOfAllPairs(t *testing.T) {
	l := append(samples(), broken()...)
	for i, a := range l {
		for j, b := range l {
			before, other := twin(a), twin(b)
			if got := Same(a, b); got != (i == j) {
				t.Errorf("Same of the nodes %d and %d: %v", i, j, got)
			}
			if !same(a, before) || !same(b, other) {
				t.Errorf("Same of the nodes %d and %d changes an argument", i, j)
			}
		}
		if !Same(a, twin(a)) {
			t.Errorf("Same of the node %d and its copy", i)
		}
	}
}

// Each part counts, of nodes of any kind, valid or not.
func TestSameOfEachPart(t *testing.T) {
	changes := []func(n *api.Node){
		func(n *api.Node) { n.Kind++ },
		func(n *api.Node) { n.Bool = !n.Bool },
		func(n *api.Node) { n.Number++ },
		func(n *api.Node) { n.Number = -n.Number },
		func(n *api.Node) { n.Text += "\x00" },
		func(n *api.Node) { n.Text = strings.ToUpper(n.Text) },
		func(n *api.Node) { n.Names[0] += "x" },
		func(n *api.Node) { n.Names[1] = "" },
		func(n *api.Node) { n.Names = n.Names[:1] },
		func(n *api.Node) { n.Names = nil },
		func(n *api.Node) { n.Names = append(n.Names, "") },
		func(n *api.Node) { slices.Reverse(n.Names) },
		func(n *api.Node) { n.Items[0].Number++ },
		func(n *api.Node) { n.Items[1].Number++ },
		func(n *api.Node) { n.Items = n.Items[:1] },
		func(n *api.Node) { n.Items = nil },
		func(n *api.Node) { n.Items = append(n.Items, api.Node{}) },
		func(n *api.Node) { slices.Reverse(n.Items) },
		func(n *api.Node) { slices.Reverse(n.Names); slices.Reverse(n.Items) },
		func(n *api.Node) { n.Items[0].Bool = true },
		func(n *api.Node) { n.Items[1].Text = "y" },
		func(n *api.Node) { n.Items[1].Items = make([]api.Node, 1) },
		func(n *api.Node) { n.Items[0].Names = []string{""} },
	}
	for _, kind := range append(slices.Clone(noKinds), allKinds...) {
		a := api.Node{Kind: kind, Number: 5, Text: "text", Names: namesOf(2), Items: repeated(2)}
		for i, change := range changes {
			b := twin(a)
			if !Same(a, b) || !Same(b, a) {
				t.Errorf("Same of kind %d and its copy", kind)
			}
			change(&b)
			if Same(a, b) || Same(b, a) {
				t.Errorf("Same of kind %d after the change %d", kind, i)
			}
			outer, other := wrapped(a, 9, api.NodeList, api.NodeMap), wrapped(b, 9, api.NodeList, api.NodeMap)
			if Same(outer, other) || !Same(outer, twin(outer)) {
				t.Errorf("Same within others, of kind %d after the change %d", kind, i)
			}
		}
	}
}

func TestSameOfEmptyLists(t *testing.T) {
	for _, kind := range append(slices.Clone(noKinds), allKinds...) {
		empty := api.Node{Kind: kind, Names: []string{}, Items: make([]api.Node, 0, 4)}
		for _, levels := range []int{0, 1, 5} {
			a, b := wrapped(api.Node{Kind: kind}, levels, api.NodeMap), wrapped(empty, levels, api.NodeMap)
			if !Same(a, b) || !Same(b, a) {
				t.Errorf("kind %d within %d: nil and empty lists differ", kind, levels)
			}
		}
	}
}

// P5.2: the nodes that are made

func TestTextAndNumber(t *testing.T) {
	for _, s := range append(goodTexts(), badTexts()...) {
		if n := Text(s); !same(n, api.Node{Kind: api.NodeText, Text: s}) {
			t.Errorf("Text(%.16q): kind %d, text %.16q", s, n.Kind, n.Text)
		}
	}
	for _, x := range []int{0, 1, -1, 23, 255, 256, api.MaxNumber, -api.MaxNumber, api.MaxNumber + 1, math.MaxInt, math.MinInt} {
		if n := Number(x); !same(n, api.Node{Kind: api.NodeNumber, Number: x}) {
			t.Errorf("Number(%d): kind %d, number %d", x, n.Kind, n.Number)
		}
	}
}

// checkList checks List, and that the result shares no memory.
func checkList(t *testing.T, l []api.Node) {
	t.Helper()
	want := twin(api.Node{Kind: api.NodeList, Items: l})
	before := twin(want).Items
	got := List(l)
	if !same(got, want) {
		t.Errorf("List of %d nodes: kind %d, %d items", len(l), got.Kind, len(got.Items))
	}
	spoil(got)
	if !same(api.Node{Items: l}, api.Node{Items: before}) {
		t.Errorf("List of %d nodes changes its argument, or shares memory with it", len(l))
	}
	got = List(l)
	spoil(api.Node{Items: l})
	if !same(got, want) {
		t.Errorf("List of %d nodes: its argument shares memory with it", len(l))
	}
}

func TestLists(t *testing.T) {
	checkList(t, nil)
	checkList(t, []api.Node{})
	checkList(t, samples())
	checkList(t, broken())
	for _, count := range []int{1, 2, api.MaxItems, api.MaxItems + 1, 5000} {
		checkList(t, repeated(count))
	}
	checkList(t, []api.Node{wrapped(mapOf(2), 40, api.NodeList, api.NodeMap)})
	checkList(t, []api.Node{wrapped(api.Node{Kind: 9, Names: namesOf(3)}, 40, 9, api.NodeNull)})
}

// checkMap checks Map, and that the result shares no memory.
func checkMap(t *testing.T, names []string, items []api.Node) {
	t.Helper()
	given := api.Node{Names: names, Items: items}
	before := twin(given)
	want := twin(given)
	want.Kind = api.NodeMap
	got := Map(names, items)
	if !same(got, want) {
		t.Errorf("Map of %d names and %d items: kind %d, %d names, %d items", len(names), len(items), got.Kind, len(got.Names), len(got.Items))
	}
	spoil(got)
	if !same(given, before) {
		t.Errorf("Map of %d names and %d items changes an argument, or shares memory with it", len(names), len(items))
	}
	got = Map(names, items)
	spoil(given)
	if !same(got, want) {
		t.Errorf("Map of %d names and %d items: an argument shares memory with it", len(names), len(items))
	}
}

func TestMapsAsGiven(t *testing.T) {
	for _, counts := range [][2]int{{0, 0}, {1, 1}, {3, 3}, {0, 2}, {2, 0}, {3, 1}, {1, 3}, {api.MaxItems, api.MaxItems}, {api.MaxItems + 9, api.MaxItems + 9}, {900, 1}} {
		checkMap(t, namesOf(counts[0]), repeated(counts[1]))
	}
	checkMap(t, []string{}, []api.Node{})
	checkMap(t, []string{"a", "a", ""}, samples())
	checkMap(t, goodTexts(), broken())
	checkMap(t, badTexts(), []api.Node{wrapped(mapOf(2), 40, api.NodeList, api.NodeMap)})
}

// What lies beyond the length of a list is no part of it.
func TestMakingLeavesWhatLiesBeyondTheLength(t *testing.T) {
	given, asItWas := withRoom(mapOf(2))
	texts := []string{"a", "b", "beyond"}
	for _, got := range []api.Node{Map(given.Names, given.Items), List(given.Items), Texts(texts[:2])} {
		if len(got.Items) != 2 || len(got.Names) > 2 {
			t.Error("items:", len(got.Items))
		}
		spoil(got)
	}
	l, _ := ReadTexts(Texts(texts))
	_ = append(l[:1], "other")
	if !asItWas() || !slices.Equal(texts, []string{"a", "b", "beyond"}) {
		t.Error("what lies beyond the length of a list is changed")
	}
}

// Two items of one list may be one node; those of the result are two.
func TestItemsOfOneResultShareNoMemory(t *testing.T) {
	inner := mapOf(2)
	l := []api.Node{inner, inner}
	results := []api.Node{List(l), Map(namesOf(2), l)}
	if item, ok := Get(api.Node{Kind: api.NodeMap, Names: []string{"a"}, Items: []api.Node{{Kind: api.NodeList, Items: l}}}, "a"); ok {
		results = append(results, item)
	}
	if len(results) != 3 {
		t.Fatal("Get")
	}
	for i, n := range results {
		spoil(n.Items[0])
		if !same(n.Items[1], mapOf(2)) {
			t.Errorf("the items of the result %d share memory", i)
		}
	}
}

// P5.2: texts

func TestTextsAndReadTexts(t *testing.T) {
	for _, l := range [][]string{
		nil, {}, {""}, {"a"}, {"a", "b"}, {"b", "a", "a"}, {"", "", ""}, goodTexts(), badTexts(), namesOf(api.MaxItems), namesOf(api.MaxItems + 1), namesOf(3000),
	} {
		before := slices.Clone(l)
		n := Texts(l)
		want := api.Node{Kind: api.NodeList}
		for _, s := range l {
			want.Items = append(want.Items, api.Node{Kind: api.NodeText, Text: s})
		}
		if !same(n, want) {
			t.Errorf("Texts of %d: kind %d, %d items", len(l), n.Kind, len(n.Items))
		}
		got, ok := ReadTexts(n)
		if !ok || !slices.Equal(got, before) {
			t.Errorf("ReadTexts of %d: %d, %v", len(l), len(got), ok)
		}
		for i := range got {
			got[i] = "spoilt"
		}
		if again, ok := ReadTexts(n); !ok || !slices.Equal(again, before) || !same(n, want) {
			t.Errorf("ReadTexts of %d shares memory with its argument, or changes it", len(l))
		}
		for i := range l {
			l[i] = "spoilt"
		}
		if !same(n, want) {
			t.Errorf("Texts of %d shares memory with its argument", len(l))
		}
	}
}

func checkNoTexts(t *testing.T, n api.Node) {
	t.Helper()
	if l, ok := ReadTexts(n); ok || len(l) != 0 {
		t.Errorf("ReadTexts: %d, %v; want nothing", len(l), ok)
		show(t, "node", n)
	}
}

func TestReadTextsOfListsWithOthers(t *testing.T) {
	others := []api.Node{{Kind: 6}, {Kind: -1}}
	for _, n := range samples() {
		if n.Kind != api.NodeText {
			others = append(others, n)
		}
	}
	for _, other := range others {
		other.Text = "x"
		for i := range 4 {
			n := Texts(namesOf(4))
			n.Items[i] = other
			checkNoTexts(t, n)
		}
		checkNoTexts(t, api.Node{Kind: api.NodeList, Items: []api.Node{other}})
	}
	checkNoTexts(t, wrapped(Texts(namesOf(2)), 1, api.NodeList))
}

func TestReadTextsOfNodesThatAreNoList(t *testing.T) {
	for _, kind := range append(slices.Clone(noKinds), allKinds...) {
		if kind == api.NodeList {
			continue
		}
		n := Texts(namesOf(2))
		n.Kind, n.Names, n.Text = kind, namesOf(2), "x"
		checkNoTexts(t, n)
		checkNoTexts(t, api.Node{Kind: kind})
	}
}

// Whether the list is valid does not matter.
func TestReadTextsOfListsThatAreNotValid(t *testing.T) {
	n := Texts([]string{"a", "\xff"})
	n.Bool, n.Number, n.Text, n.Names = true, 1, "x", []string{"n"}
	n.Items[0].Number, n.Items[1].Items = 7, repeated(1)
	if l, ok := ReadTexts(n); !ok || !slices.Equal(l, []string{"a", "\xff"}) {
		t.Error("ReadTexts:", l, ok)
	}
}

// P1

// Limits of all of it: up to 2^16 levels of nesting.
func TestManyLevels(t *testing.T) {
	const levels = 1<<16 - 2
	a := wrapped(Number(1), levels, api.NodeMap, api.NodeList)
	b := wrapped(Number(1), levels, api.NodeMap, api.NodeList)
	c := wrapped(Number(2), levels, api.NodeMap, api.NodeList)
	if Valid(a) {
		t.Error("Valid")
	}
	if !Same(a, b) || Same(a, c) {
		t.Error("Same")
	}
	if l := List([]api.Node{a}); !Same(l.Items[0], b) {
		t.Error("List")
	}
	m := Map([]string{"a"}, []api.Node{a})
	if n, ok := Get(m, "a"); !ok || !Same(n, b) {
		t.Error("Get")
	}
	if n, e := Put(m, "a", Number(1)); e != api.ErrInvalid || !Same(n, api.Node{}) {
		t.Error("Put on it:", e)
	}
	if n, e := Put(mapOf(1), "a", a); e != api.ErrInvalid || !Same(n, api.Node{}) {
		t.Error("Put of it:", e)
	}
}

// Consequences

// What was put is got, and nothing else changes, for one Put after the other.
func TestPutAgainAndAgain(t *testing.T) {
	values := slices.DeleteFunc(samples(), func(n api.Node) bool { return height(n) == api.MaxDepth })
	m := api.Node{Kind: api.NodeMap}
	var names []string
	items := map[string]api.Node{}
	for i := range 1000 {
		name, value := namesOf(60)[i*i*7%60], values[i%len(values)]
		if _, ok := items[name]; !ok {
			names = append(names, name)
		}
		items[name] = twin(value)
		next, e := Put(m, name, value)
		if e != api.OK || !slices.Equal(next.Names, names) || !Valid(next) {
			t.Fatalf("Put %d of %q: %d, %d names; want %d", i, name, e, len(next.Names), len(names))
		}
		for _, name := range names {
			if got, ok := Get(next, name); !ok || !same(got, items[name]) {
				t.Fatalf("Put %d: Get(%q): %v", i, name, ok)
			}
		}
		spoil(m)
		m = next
	}
	if len(names) < 10 {
		t.Error("names:", len(names))
	}
}

// source gives numbers and strings from bytes, and zeros behind their end.
type source struct{ rest []byte }

func (s *source) next(most int) int {
	if len(s.rest) == 0 || most == 0 {
		return 0
	}
	n := int(s.rest[0]) % most
	s.rest = s.rest[1:]
	return n
}

func (s *source) text() string {
	if s.next(16) == 15 {
		return strings.Repeat("x", api.MaxBytes+s.next(2))
	}
	n := min(s.next(4), len(s.rest))
	text := string(s.rest[:n])
	s.rest = s.rest[n:]
	return text
}

// node returns a node that is most often valid.
func (s *source) node(levels int) api.Node {
	n := api.Node{Kind: s.next(len(allKinds))}
	odd := s.next(32)
	if n.Kind == api.NodeBool || odd == 1 {
		n.Bool = s.next(2) == 1
	}
	if n.Kind == api.NodeNumber || odd == 2 {
		n.Number = s.next(256) - 128
	}
	if n.Kind == api.NodeText || odd == 3 {
		n.Text = s.text()
	}
	count := s.next(5)
	if n.Kind == api.NodeMap || odd == 4 {
		for range count {
			n.Names = append(n.Names, s.text())
		}
	}
	if odd == 5 {
		count += s.next(2*api.MaxItems) - 1
	}
	if (n.Kind == api.NodeList || n.Kind == api.NodeMap || odd == 6) && levels > 0 {
		for range count {
			n.Items = append(n.Items, s.node(levels-1))
		}
	}
	if odd == 7 {
		n.Kind = s.next(256) - 128
	}
	return n
}

// checkAll checks all functions on nodes and a name.
func checkAll(t *testing.T, a, b api.Node, name string) {
	t.Helper()
	checkValid(t, a, valid(a))
	if Same(a, b) != same(a, b) || !Same(a, a) || !Same(a, twin(a)) {
		t.Error("Same")
	}
	place := -1
	for i := range min(len(a.Names), len(a.Items)) {
		if place < 0 && a.Kind == api.NodeMap && a.Names[i] == name {
			place = i
		}
	}
	if place >= 0 {
		checkGet(t, a, name, a.Items[place])
	} else {
		checkNotGot(t, a, name)
	}
	want := twin(a)
	if place >= 0 {
		want.Items[place] = b
	} else {
		want.Names, want.Items = append(want.Names, name), append(want.Items, b)
	}
	if a.Kind == api.NodeMap && valid(a) && valid(want) {
		checkPut(t, twin(a), name, twin(b), want)
	} else {
		checkNotPut(t, a, name, b)
	}
	checkList(t, []api.Node{twin(a), twin(b), twin(a)})
	checkMap(t, []string{name, name}, []api.Node{twin(b), twin(a)})
	texts := slices.Clone(a.Names)
	if l, ok := ReadTexts(Texts(a.Names)); !ok || !slices.Equal(l, texts) {
		t.Error("ReadTexts")
	}
}

func TestNodesOfManyBytes(t *testing.T) {
	seed := uint32(1)
	found := 0
	for range 3000 {
		var b []byte
		for range 400 {
			seed = seed*1664525 + 1013904223
			b = append(b, byte(seed>>24))
		}
		s := &source{b}
		name := s.text()
		first := s.node(3)
		if valid(first) && first.Kind == api.NodeMap {
			found++
			if len(first.Names) > 0 && s.next(2) == 1 {
				name = first.Names[s.next(len(first.Names))]
			}
		}
		checkAll(t, first, s.node(9), name)
	}
	if found < 100 {
		t.Error("valid maps:", found)
	}
}

// FuzzAll looks for nodes that break a promise.
func FuzzAll(f *testing.F) {
	f.Add([]byte{}, "")
	f.Add([]byte{5, 0, 2, 1, 'a', 1, 'b', 2, 0, 7, 3, 0, 1, 'x'}, "a")
	f.Add([]byte{4, 0, 3, 0, 0, 1, 0, 1, 5, 0, 0}, "\xff")
	f.Add([]byte{0, 7, 200, 5, 4, 3, 1, 'a', 1, 'a', 1, 'b'}, "b")
	f.Fuzz(func(t *testing.T, b []byte, name string) {
		if len(b) > 1<<12 {
			return
		}
		s := &source{b}
		checkAll(t, s.node(4), s.node(9), name)
	})
}
