package pack_test

import (
	"encoding/binary"
	"encoding/hex"
	"fmt"
	"math"
	"slices"
	"strings"
	"testing"

	"keyevent/api"
	"keyevent/cbor"
	"keyevent/json"
	"keyevent/node"
	"keyevent/pack"
)

// The definition, as the chapter has it

// behind returns a byte, and a number in so many bytes behind it.
func behind(first byte, number, width int) string {
	all := binary.BigEndian.AppendUint64(nil, uint64(number))
	return string(append([]byte{first}, all[8-width:]...))
}

// numberText is the definition of the bytes of a number.
func numberText(n int) string {
	switch {
	case n >= 0 && n <= 127:
		return string([]byte{byte(n)})
	case n >= -32 && n <= -1:
		return string([]byte{byte(256 + n)})
	case n >= 0 && n <= math.MaxUint8:
		return behind(0xcc, n, 1)
	case n >= 0 && n <= math.MaxUint16:
		return behind(0xcd, n, 2)
	case n >= 0 && n <= math.MaxUint32:
		return behind(0xce, n, 4)
	case n >= 0:
		return behind(0xcf, n, 8)
	case n >= math.MinInt8:
		return behind(0xd0, n, 1)
	case n >= math.MinInt16:
		return behind(0xd1, n, 2)
	case n >= math.MinInt32:
		return behind(0xd2, n, 4)
	}
	return behind(0xd3, n, 8)
}

// lengthText is the definition of what stands before so many bytes of a text, or
// so many items.
func lengthText(kind, length int) string {
	switch {
	case kind == api.NodeText && length < 32:
		return string([]byte{byte(0xa0 + length)})
	case kind == api.NodeText && length <= math.MaxUint8:
		return behind(0xd9, length, 1)
	case kind == api.NodeText && length <= math.MaxUint16:
		return behind(0xda, length, 2)
	case kind == api.NodeText:
		return behind(0xdb, length, 4)
	case kind == api.NodeList && length < 16:
		return string([]byte{byte(0x90 + length)})
	case kind == api.NodeList:
		return behind(0xdc, length, 2)
	case length < 16:
		return string([]byte{byte(0x80 + length)})
	}
	return behind(0xde, length, 2)
}

func stringText(s string) string { return lengthText(api.NodeText, len(s)) + s }

// textOf is the definition of the bytes of a node that is valid, or is not only
// because of its limits, its names or its texts.
func textOf(n api.Node) string {
	switch n.Kind {
	case api.NodeNull:
		return "\xc0"
	case api.NodeBool:
		return map[bool]string{false: "\xc2", true: "\xc3"}[n.Bool]
	case api.NodeNumber:
		return numberText(n.Number)
	case api.NodeText:
		return stringText(n.Text)
	}
	text := []string{lengthText(n.Kind, len(n.Items))}
	for i, item := range n.Items {
		if n.Kind == api.NodeMap {
			text = append(text, stringText(n.Names[i]))
		}
		text = append(text, textOf(item))
	}
	return strings.Join(text, "")
}

// value returns the number of which s has the lowest bytes: one that is not
// negative, and one that is if the highest bit is set.
func value(s string) (unsigned, signed int) {
	for i := range len(s) {
		unsigned = unsigned*256 + int(s[i])
	}
	unused := 64 - 8*len(s)
	return unsigned, unsigned << unused >> unused
}

// start returns the kind and the number or length with which s begins, and how
// many bytes say so: those that the definition has for them.
func start(s string) (kind, number, size int, ok bool) {
	for _, size := range []int{1, 2, 3, 5, 9} {
		if size > len(s) {
			break
		}
		unsigned, signed := value(s[min(1, size-1):size])
		for _, number := range []int{unsigned, signed} {
			if numberText(number) == s[:size] {
				return api.NodeNumber, number, size, true
			}
		}
		for _, kind := range []int{api.NodeText, api.NodeList, api.NodeMap} {
			for _, length := range []int{unsigned, unsigned % 32, unsigned % 16} {
				if length >= 0 && lengthText(kind, length) == s[:size] {
					return kind, length, size, true
				}
			}
		}
	}
	return 0, 0, 0, false
}

// read returns the node with which s begins, and what follows.
func read(s string) (n api.Node, rest string, ok bool) {
	for _, n := range []api.Node{null, no, yes} {
		if rest, ok := strings.CutPrefix(s, textOf(n)); ok {
			return n, rest, true
		}
	}
	kind, number, size, ok := start(s)
	rest = s[size:]
	switch {
	case !ok || kind == api.NodeText && number > len(rest):
		return null, "", false
	case kind == api.NodeNumber:
		return node.Number(number), rest, true
	case kind == api.NodeText:
		return node.Text(rest[:number]), rest[number:], true
	}
	n.Kind = kind
	for range number {
		part, after, ok := read(rest)
		if ok && kind == api.NodeMap {
			ok = part.Kind == api.NodeText
			n.Names = append(n.Names, part.Text)
			rest = after
		}
		if ok {
			part, after, ok = read(rest)
		}
		if !ok {
			return null, "", false
		}
		n.Items, rest = append(n.Items, part), after
	}
	return n, rest, true
}

// nodeOf returns the valid node whose bytes are s, and whether there is one,
// without the package.
func nodeOf(s string) (api.Node, bool) {
	if len(s) > api.MaxBytes {
		return null, false
	}
	n, rest, ok := read(s)
	if !ok || rest != "" || !node.Valid(n) {
		return null, false
	}
	return n, true
}

// Nodes and strings

var (
	null = api.Node{}
	no   = api.Node{Kind: api.NodeBool}
	yes  = api.Node{Kind: api.NodeBool, Bool: true}
)

func list(items ...api.Node) api.Node { return node.List(items) }

// numbered returns the map of n0, n1 and so on.
func numbered(items ...api.Node) api.Node {
	var names []string
	for i := range items {
		names = append(names, fmt.Sprint("n", i))
	}
	return node.Map(names, items)
}

// named returns the map of one item.
func named(name string, item api.Node) api.Node { return numberedAs(item, name) }

// numberedAs returns the map that has the same item at all names.
func numberedAs(item api.Node, names ...string) api.Node {
	return node.Map(names, slices.Repeat([]api.Node{item}, len(names)))
}

func plain(count int) string { return strings.Repeat("p", count) }

func nulls(count int) []api.Node { return make([]api.Node, count) }

// bytesOf returns the bytes of hexadecimal digits.
func bytesOf(digits string) string {
	b, err := hex.DecodeString(strings.ReplaceAll(digits, " ", ""))
	if err != nil {
		panic(err)
	}
	return string(b)
}

// inLists and inMaps return n within so many lists or maps; inBoth takes turns.
func inLists(n api.Node, levels int) api.Node {
	for range levels {
		n = list(n)
	}
	return n
}

func inMaps(n api.Node, levels int) api.Node {
	for range levels {
		n = named("m", n)
	}
	return n
}

func inBoth(n api.Node, levels int) api.Node {
	for i := range levels {
		if i%2 == 0 {
			n = inLists(n, 1)
		} else {
			n = inMaps(n, 1)
		}
	}
	return n
}

// edges are the numbers around each at which the bytes of a number grow, and
// around each power of two.
func edges() []int {
	l := []int{0, math.MaxInt, math.MinInt, math.MinInt + 1, math.MaxInt - 1, -33, -32, -31, 0x0102030405060708, -0x0102030405060708}
	for bits := range 63 {
		power := 1 << bits
		for _, near := range []int{power - 1, power, power + 1, power + power/3} {
			l = append(l, near, -near)
		}
	}
	return l
}

// words are valid texts: short ones, such as look like heads, and of lengths at
// which the head grows.
func words() []string {
	l := []string{"", "a", "b", "ab", "\x00", "\x7f", "\u0080", "\u00a0", "\u00c0", "\u07ff", "\ud7ff", "\ue000", "\uffff", "\U00010000", "\U0010ffff", "\ufffd", "\\\"\n", "null"}
	for _, count := range []int{15, 16, 30, 31, 32, 33, 127, 128, 254, 255, 256, 257, 1000} {
		l = append(l, plain(count), strings.Repeat("\u00e9", count/2)+plain(count%2))
	}
	return l
}

// notWords are strings that are no valid UTF-8.
func notWords() []string {
	return []string{
		"\x80", "\xa0", "\xbf", "\xc0", "\xc2", "\xff", "\xc0\xaf", "\xe0\x80\xaf", "\xe2\x82", "\xed\xa0\x80", "\xed\xbf\xbf", "\xf0\x80\x80\xaf",
		"\xf4\x90\x80\x80", "\xf5\x80\x80\x80", "a\xff", "\xffa", "\u00e9\xa9", plain(30) + "\xff", plain(31) + "\xff", plain(255) + "\xc3", "\xc3" + plain(65535),
	}
}

// leaves are nodes without items.
func leaves() []api.Node {
	l := []api.Node{null, no, yes, list(), numbered()}
	for _, number := range []int{0, 1, 127, 128, 255, 256, 65535, 65536, 1<<32 - 1, 1 << 32, math.MaxInt, -1, -32, -33, -128, -129, -32768, -32769, -1 << 31, -1<<31 - 1, math.MinInt} {
		l = append(l, node.Number(number))
	}
	for _, s := range words() {
		l = append(l, node.Text(s))
	}
	return l
}

// samples are valid nodes of each kind, lists and maps within one another.
func samples() []api.Node {
	l := leaves()
	for _, leaf := range leaves() {
		l = append(l, list(leaf), list(null, leaf), list(leaf, leaf, yes), named("", leaf), numbered(leaf, no, leaf), inBoth(leaf, 3))
	}
	for _, count := range []int{2, 14, 15, 16, 17, 31, 32, 127, 128, 255, 256} {
		l = append(l, list(nulls(count)...), numbered(nulls(count)...), list(slices.Repeat([]api.Node{node.Text("\x01")}, count)...))
	}
	for levels := range api.MaxDepth {
		l = append(l, inLists(node.Number(levels), levels), inMaps(node.Text("x"), levels), inBoth(list(), levels), inBoth(yes, levels))
	}
	mixed := node.Map([]string{"z", "", "a"}, []api.Node{list(numbered(), list()), numbered(leaves()...), list(leaves()...)})
	return append(l, list(leaves()...), numbered(leaves()...), numberedAs(null, words()...), mixed, list(mixed, null, mixed), named("mixed", mixed),
		numberedAs(no, "a", "b"), numberedAs(no, "b", "a"), node.Map([]string{"a", "b"}, []api.Node{no, yes}), node.Map([]string{"a", "b"}, []api.Node{yes, no}))
}

// broken are nodes that are not valid.
func broken() []api.Node {
	l := []api.Node{
		{Kind: -1}, {Kind: 6}, {Kind: math.MinInt}, {Kind: math.MaxInt}, {Bool: true}, {Number: 1}, {Text: "t"}, {Names: []string{"n"}}, {Items: nulls(1)},
		{Kind: api.NodeBool, Number: 1}, {Kind: api.NodeBool, Bool: true, Text: "t"}, {Kind: api.NodeBool, Items: nulls(1)},
		{Kind: api.NodeNumber, Bool: true}, {Kind: api.NodeNumber, Text: "t"}, {Kind: api.NodeNumber, Items: nulls(1)},
		{Kind: api.NodeText, Bool: true}, {Kind: api.NodeText, Number: 1}, {Kind: api.NodeText, Items: nulls(1)}, {Kind: api.NodeText, Names: []string{"n"}},
		{Kind: api.NodeList, Bool: true}, {Kind: api.NodeList, Number: 1}, {Kind: api.NodeList, Text: "t"}, {Kind: api.NodeList, Names: []string{"n"}, Items: nulls(1)},
		{Kind: api.NodeMap, Bool: true}, {Kind: api.NodeMap, Number: 1}, {Kind: api.NodeMap, Text: "t"},
		{Kind: api.NodeMap, Items: nulls(1)}, {Kind: api.NodeMap, Names: []string{"n"}}, {Kind: api.NodeMap, Names: []string{"n"}, Items: nulls(2)},
		numberedAs(null, "n", "n"), numberedAs(null, "", "n", ""), list(nulls(api.MaxItems + 1)...), numbered(nulls(api.MaxItems + 1)...),
		inLists(null, api.MaxDepth), inMaps(null, api.MaxDepth), inBoth(numbered(), api.MaxDepth), inLists(null, 500),
		node.Text(plain(api.MaxBytes + 1)), named(plain(api.MaxBytes+1), null),
	}
	for _, s := range notWords() {
		l = append(l, node.Text(s), named(s, null))
	}
	return l
}

// Checks

func expectText(t *testing.T, n api.Node, want string) {
	t.Helper()
	if s, e := pack.Encode(n); e != api.OK || s != want {
		t.Errorf("Encode of kind %d: %d bytes %.30x, error %d; want %d bytes %.30x", n.Kind, len(s), s, e, len(want), want)
	}
}

func expectNoText(t *testing.T, n api.Node, want api.Errno) {
	t.Helper()
	if s, e := pack.Encode(n); e != want || s != "" {
		t.Errorf("Encode of kind %d, %.20q, %d items: %d bytes, error %d; want error %d alone", n.Kind, n.Text, len(n.Items), len(s), e, want)
	}
}

func expectNode(t *testing.T, s string, want api.Node) {
	t.Helper()
	if n, e := pack.Decode(s); e != api.OK || !node.Same(n, want) {
		t.Errorf("Decode(%.30x), %d bytes: kind %d, number %d, %.20q, %d items, error %d", s, len(s), n.Kind, n.Number, n.Text, len(n.Items), e)
	}
}

func expectNoNode(t *testing.T, s string) {
	t.Helper()
	if n, e := pack.Decode(s); e != api.ErrForm || !node.Same(n, null) {
		t.Errorf("Decode(%.30x), %d bytes: kind %d, number %d, %d items, error %d; want error %d alone", s, len(s), n.Kind, n.Number, len(n.Items), e, api.ErrForm)
	}
}

// expectBoth checks both directions.
func expectBoth(t *testing.T, n api.Node, text string) {
	t.Helper()
	expectText(t, n, text)
	expectNode(t, text, n)
}

// expectNeither checks that a node has no bytes because of a limit, and that its
// bytes have no node.
func expectNeither(t *testing.T, n api.Node, want api.Errno) {
	t.Helper()
	expectNoText(t, n, want)
	expectNoNode(t, textOf(n))
}

// expectDefined checks Decode of any string, and reports whether it is the bytes
// of a node.
func expectDefined(t *testing.T, s string) bool {
	t.Helper()
	n, ok := nodeOf(s)
	if ok {
		expectBoth(t, n, s)
	} else {
		expectNoNode(t, s)
	}
	return ok
}

// P8.1: Encode

func TestBytesOfNodes(t *testing.T) {
	number := node.Number
	for _, x := range []struct {
		n      api.Node
		digits string
	}{
		{null, "c0"}, {no, "c2"}, {yes, "c3"},
		{number(0), "00"}, {number(1), "01"}, {number(32), "20"}, {number(126), "7e"}, {number(127), "7f"},
		{number(128), "cc80"}, {number(129), "cc81"}, {number(255), "ccff"}, {number(256), "cd0100"}, {number(258), "cd0102"},
		{number(32767), "cd7fff"}, {number(32768), "cd8000"}, {number(65535), "cdffff"}, {number(65536), "ce00010000"}, {number(0x01020304), "ce01020304"},
		{number(1<<31 - 1), "ce7fffffff"}, {number(1 << 31), "ce80000000"}, {number(1<<32 - 1), "ceffffffff"}, {number(1 << 32), "cf0000000100000000"},
		{number(0x0102030405060708), "cf0102030405060708"}, {number(math.MaxInt), "cf7fffffffffffffff"},
		{number(-1), "ff"}, {number(-2), "fe"}, {number(-31), "e1"}, {number(-32), "e0"}, {number(-33), "d0df"}, {number(-127), "d081"}, {number(-128), "d080"},
		{number(-129), "d1ff7f"}, {number(-256), "d1ff00"}, {number(-257), "d1feff"}, {number(-32768), "d18000"}, {number(-32769), "d2ffff7fff"},
		{number(-65536), "d2ffff0000"}, {number(-1 << 31), "d280000000"}, {number(-1<<31 - 1), "d3ffffffff7fffffff"}, {number(-1 << 32), "d3ffffffff00000000"},
		{number(math.MinInt + 1), "d38000000000000001"}, {number(math.MinInt), "d38000000000000000"},
		{node.Text(""), "a0"}, {node.Text("a"), "a161"}, {node.Text("abc"), "a3616263"}, {node.Text("\u00e9"), "a2c3a9"}, {node.Text("\U0001f600"), "a4f09f9880"},
		{node.Text(plain(31)), "bf" + strings.Repeat("70", 31)}, {node.Text(plain(32)), "d920" + strings.Repeat("70", 32)},
		{node.Text(plain(255)), "d9ff" + strings.Repeat("70", 255)}, {node.Text(plain(256)), "da0100" + strings.Repeat("70", 256)},
		{node.Text(plain(65533)), "dafffd" + strings.Repeat("70", 65533)},
		{list(), "90"}, {list(null), "91c0"}, {list(number(1), number(-1), number(128)), "9301ffcc80"}, {list(list(), numbered(), list(yes)), "93908091c3"},
		{list(nulls(15)...), "9f" + strings.Repeat("c0", 15)}, {list(nulls(16)...), "dc0010" + strings.Repeat("c0", 16)},
		{list(nulls(255)...), "dc00ff" + strings.Repeat("c0", 255)}, {list(nulls(256)...), "dc0100" + strings.Repeat("c0", 256)},
		{numbered(), "80"}, {named("", null), "81a0c0"}, {named("a", number(1)), "81a16101"}, {named("a", named("b", list(no))), "81a16181a16291c2"},
		{node.Map([]string{"compact", "schema"}, []api.Node{yes, number(0)}), "82a7636f6d70616374c3a6736368656d6100"},
		{numberedAs(null, "b", "a", ""), "83a162c0a161c0a0c0"}, {named(plain(32), null), "81d920" + strings.Repeat("70", 32) + "c0"},
		{named(plain(256), null), "81da0100" + strings.Repeat("70", 256) + "c0"},
	} {
		expectBoth(t, x.n, bytesOf(x.digits))
	}
}

func TestEncodeOfSamples(t *testing.T) {
	for _, n := range samples() {
		expectBoth(t, n, textOf(n))
		if !expectDefined(t, textOf(n)) {
			t.Errorf("the definition does not read %.30x", textOf(n))
		}
	}
}

func TestNumbers(t *testing.T) {
	numbers := edges()
	for number := -70000; number <= 70000; number++ {
		numbers = append(numbers, number)
	}
	for _, number := range numbers {
		expectBoth(t, node.Number(number), numberText(number))
	}
	for _, number := range edges() {
		n := node.Number(number)
		expectBoth(t, list(n, null, n), "\x93"+numberText(number)+"\xc0"+numberText(number))
		expectBoth(t, named("a", n), "\x81\xa1a"+numberText(number))
	}
}

func TestTextsOfAllLengths(t *testing.T) {
	for count := range 1000 {
		s := plain(count)
		expectBoth(t, node.Text(s), stringText(s))
		expectBoth(t, named(s, yes), "\x81"+stringText(s)+"\xc3")
	}
	for _, s := range words() {
		for _, more := range words() {
			expectBoth(t, list(node.Text(s+more), node.Text(more)), "\x92"+stringText(s+more)+stringText(more))
		}
	}
}

func TestListsAndMapsOfAllLengths(t *testing.T) {
	for count := range api.MaxItems + 3 {
		items := nulls(count)
		for i := range items {
			items[i] = node.Number(i)
		}
		for _, n := range []api.Node{list(items...), numbered(items...), list(list(items...), null), named("a", numbered(items...))} {
			if count <= api.MaxItems {
				expectBoth(t, n, textOf(n))
			} else {
				expectNeither(t, n, api.ErrInvalid)
			}
		}
	}
	for _, count := range []int{511, 512, 513, 4000, 32768} {
		expectNeither(t, list(nulls(count)...), api.ErrInvalid)
		expectNeither(t, numbered(nulls(count)...), api.ErrInvalid)
	}
}

// nil and empty lists mean the same.
func TestEmptyLists(t *testing.T) {
	for _, n := range leaves() {
		want := textOf(n)
		n.Names, n.Items = []string{}, []api.Node{}
		expectText(t, n, want)
		n.Names, n.Items = make([]string, 0, 3), make([]api.Node, 0, 3)
		expectText(t, list(n), "\x91"+want)
	}
}

func TestEncodeOfBrokenNodes(t *testing.T) {
	long := node.Text(plain(api.MaxBytes))
	for _, n := range broken() {
		expectNoText(t, n, api.ErrInvalid)
		expectNoText(t, list(null, n), api.ErrInvalid)
		expectNoText(t, numbered(n, null), api.ErrInvalid)
		expectNoText(t, inBoth(n, 4), api.ErrInvalid)
		// The whole node is checked before the limit.
		expectNoText(t, list(long, long, n), api.ErrInvalid)
		expectNoText(t, numbered(n, long), api.ErrInvalid)
	}
}

// A node that contains itself is nested too deeply.
func TestEncodeOfANodeWithinItself(t *testing.T) {
	items := nulls(1)
	items[0] = api.Node{Kind: api.NodeList, Items: items}
	expectNoText(t, items[0], api.ErrInvalid)
	for _, form := range []int{api.FormJSON, api.FormCBOR, api.FormPack} {
		if s, e := pack.EncodeAs(form, items[0]); e != api.ErrInvalid || s != "" {
			t.Errorf("EncodeAs(%d): %.20x, error %d", form, s, e)
		}
	}
}

// filled returns nodes of so many bytes, of which a text or a name has most.
func filled(bytes int) []api.Node {
	var l []api.Node
	for _, around := range []func(s string) api.Node{
		node.Text,
		func(s string) api.Node { return list(node.Text(s)) },
		func(s string) api.Node { return list(node.Text(s), null) },
		func(s string) api.Node { return list(null, yes, node.Number(300), node.Text(s)) },
		func(s string) api.Node { return named(s, null) },
		func(s string) api.Node { return named("a", node.Text(s)) },
		func(s string) api.Node { return numberedAs(no, "a", s, "b") },
		func(s string) api.Node { return inMaps(node.Text(s), api.MaxDepth-1) },
		func(s string) api.Node {
			return list(slices.Insert(slices.Repeat([]api.Node{node.Text(plain(250))}, 200), 100, node.Text(s))...)
		},
		func(s string) api.Node {
			return list(append(slices.Repeat([]api.Node{list(nulls(256)...)}, 220), node.Text(s))...)
		},
	} {
		// A text of that size has two bytes more before it than an empty one.
		l = append(l, around(plain(bytes-len(textOf(around("")))-2)))
	}
	return l
}

func TestLimitOfBytes(t *testing.T) {
	for _, bytes := range []int{api.MaxBytes - 2, api.MaxBytes - 1, api.MaxBytes, api.MaxBytes + 1, api.MaxBytes + 2} {
		for i, n := range filled(bytes) {
			if len(textOf(n)) != bytes || !node.Valid(n) {
				t.Fatal("filled:", i, bytes, len(textOf(n)))
			}
			if bytes <= api.MaxBytes {
				expectBoth(t, n, textOf(n))
			} else {
				expectNeither(t, n, api.ErrLimit)
			}
		}
	}
	for count := api.MaxBytes - 2; count <= api.MaxBytes; count++ {
		expectNeither(t, node.Text(plain(count)), api.ErrLimit)
		expectNeither(t, named(plain(count), null), api.ErrLimit)
		expectNeither(t, list(null, node.Text(plain(count))), api.ErrLimit)
	}
	for _, count := range []int{api.MaxBytes + 1, 1 << 17} {
		expectNeither(t, node.Text(plain(count)), api.ErrInvalid)
	}
}

// A valid node may be far longer than the limit.
func TestEncodeOfVeryLongNodes(t *testing.T) {
	row := list(slices.Repeat([]api.Node{node.Text(plain(4000))}, api.MaxItems)...)
	rows := slices.Repeat([]api.Node{row}, api.MaxItems)
	expectNoText(t, list(rows...), api.ErrLimit)
	expectNoText(t, numbered(rows...), api.ErrLimit)
	small := list(slices.Repeat([]api.Node{list(nulls(api.MaxItems)...)}, api.MaxItems)...)
	expectNeither(t, small, api.ErrLimit)
}

// P8.1: Decode

func TestDecodeOfShortStrings(t *testing.T) {
	found := map[int]int{}
	count := func(s string) {
		if expectDefined(t, s) {
			found[len(s)]++
		}
	}
	for a := range 256 {
		count(string([]byte{byte(a)}))
		for b := range 256 {
			count(string([]byte{byte(a), byte(b)}))
		}
	}
	// 0 to 127, -32 to -1, null, false, true, an empty text, list and map
	if found[1] != 128+32+3+3 {
		t.Error("nodes of one byte:", found[1])
	}
	// 128 to 255, -128 to -33, texts of one byte, lists of one of the above
	if found[2] != 128+96+128+166 {
		t.Error("nodes of two bytes:", found[2])
	}
	bytes := []byte("\x00\x01\x10\x20a\x7f\x80\x81\x82\x90\x91\x92\xa0\xa1\xa2\xc0\xc1\xc2\xcc\xcd\xd0\xd1\xd9\xda\xdc\xde\xe0\xff")
	for _, a := range bytes {
		for _, b := range bytes {
			for _, c := range bytes {
				count(string([]byte{a, b, c}))
				for _, d := range bytes {
					count(string([]byte{a, b, c, d}))
				}
			}
		}
	}
	if found[3] < 300 || found[4] < 1000 {
		t.Error("nodes:", found)
	}
}

// Each number, and each length, has one form: the shortest.
func TestDecodeOfWidths(t *testing.T) {
	for first := 0xc4; first <= 0xdf; first++ {
		for _, width := range []int{1, 2, 4, 8} {
			for _, number := range edges() {
				s := behind(byte(first), number, width)
				_, shortest, _, isNumber := start(s)
				isNumber = isNumber && numberText(shortest) == s
				if expectDefined(t, s) != isNumber {
					t.Errorf("%x: number %t", s, isNumber)
				}
				expectDefined(t, "\x91"+s)
				expectDefined(t, "\x81\xa1a"+s)
				if number < 0 || number > 600 {
					continue
				}
				for _, part := range []string{"p", "\x00", "\xc0", "\xa0\xc0"} {
					expectDefined(t, s+strings.Repeat(part, number))
				}
				items := strings.TrimPrefix(textOf(numbered(nulls(number)...)), lengthText(api.NodeMap, number))
				expectDefined(t, s+items)
				expectDefined(t, "\x92"+s+items+"\xc0")
			}
		}
	}
}

// noNodes are strings that are no node's bytes.
func noNodes() []string {
	return []string{
		"", "00 00", "c0 c0", "90 90", "80 80", "a0 a0", "7f ff", "c2 c3",
		// first bytes that no node has
		"c1", "c1 00", "c4", "c4 00", "c4 01 61", "c5 00 00", "c5 00 01 61", "c6 00 00 00 00", "c6 00 00 00 01 61", "c7 00 01", "c8 00 00 01", "c9 00 00 00 00 01",
		"ca 00 00 00 00", "ca 3f 80 00 00", "cb 00 00 00 00 00 00 00 00", "cb 3f f0 00 00 00 00 00 00", "d4 01 00", "d5 01 00 00", "d6 01 00 00 00 00",
		"d7 ff 00 00 00 00 00 00 00 00", "d8 01 00 00 00 00 00 00 00 00 00 00 00 00 00 00 00 00", "dd 00 00 00 00", "dd 00 00 00 01 c0", "dd 00 00 00 10" + strings.Repeat("c0", 16),
		"df 00 00 00 00", "df 00 00 00 01 a0 c0", "91 c1", "81 a0 c1", "81 c1 c0",
		// numbers that are not the shortest
		"cc 00", "cc 01", "cc 7f", "cd 00 00", "cd 00 7f", "cd 00 80", "cd 00 ff", "ce 00 00 00 00", "ce 00 00 00 80", "ce 00 00 01 00", "ce 00 00 ff ff",
		"cf 00 00 00 00 00 00 00 00", "cf 00 00 00 00 00 01 00 00", "cf 00 00 00 00 ff ff ff ff", "d0 00", "d0 01", "d0 7f", "d0 e0", "d0 ff", "d1 00 00", "d1 00 80", "d1 7f ff",
		"d1 ff 80", "d1 ff df", "d1 ff ff", "d2 00 00 00 01", "d2 00 01 00 00", "d2 7f ff ff ff", "d2 ff ff 80 00", "d2 ff ff ff 7f", "d2 ff ff ff ff", "d3 00 00 00 00 00 00 00 00",
		"d3 00 00 00 01 00 00 00 00", "d3 7f ff ff ff ff ff ff ff", "d3 ff ff ff ff 80 00 00 00", "d3 ff ff ff ff ff ff ff ff", "d3 ff ff ff ff ff ff 7f ff",
		// numbers that are no int
		"cf 80 00 00 00 00 00 00 00", "cf 80 00 00 00 00 00 00 01", "cf ff ff ff ff ff ff ff ff", "cf ff ff ff ff 7f ff ff ff", "91 cf ff ff ff ff ff ff ff e0",
		// numbers that end too early
		"cc", "cd", "cd 01", "ce", "ce 01", "ce 01 00 00", "cf", "cf 01 00 00 00 00 00 00", "d0", "d1", "d1 80", "d2", "d2 80 00 00", "d3", "d3 80 00 00 00 00 00 00",
		// texts
		"a1", "a2 61", "a1 61 61", "bf", "bf 61", "d9", "d9 00", "d9 01 61", "d9 1f" + strings.Repeat("61", 31), "d9 20" + strings.Repeat("61", 31), "d9 20" + strings.Repeat("61", 33),
		"da", "da 01", "da 00 00", "da 00 01 61", "da 00 ff" + strings.Repeat("61", 255), "da 01 00" + strings.Repeat("61", 255), "da ff ff 61",
		"db", "db 00 00 00", "db 00 00 00 00", "db 00 00 00 01 61", "db 00 00 01 00" + strings.Repeat("61", 256), "db 00 01 00 00", "db 7f ff ff ff 61", "db 80 00 00 00 61", "db ff ff ff ff 61",
		"a1 80", "a1 c3", "a1 ff", "a2 c3 28", "a2 c0 80", "a3 ed a0 80", "a4 f4 90 80 80", "a1 c3 a9", "81 a1 ff c0",
		// lists
		"91", "92 c0", "91 c0 c0", "90 c0", "9f", "91 91", "91 92 c0", "dc", "dc 00", "dc 00 00", "dc 00 01 c0", "dc 00 0f" + strings.Repeat("c0", 15), "dc 00 10" + strings.Repeat("c0", 15),
		"dc 00 10" + strings.Repeat("c0", 17), "dc ff ff", "dc ff ff c0", "dc 01 01" + strings.Repeat("c0", 257), "91 cc", "91 cc 01", "91 a1", "91 dc 00 00",
		// maps
		"81", "81 a0", "81 a1 61", "81 c0", "82 a0 c0", "81 a0 c0 c0", "81 a0 c0 a0", "82 a0 c0 a1", "82 a0 c0 a1 61", "80 a0 c0", "8f", "de", "de 00", "de 00 00", "de 00 01 a0 c0",
		"de ff ff", "de ff ff a0 c0", "81 a0 81 a0", "81 a1", "81 d9 01 61 c0",
		// names that are no texts
		"81 00 c0", "81 61 c0", "81 c0 c0", "81 c2 c0", "81 ff c0", "81 cc 80 c0", "81 90 c0", "81 91 a0 c0", "81 80 c0", "81 81 a0 c0 c0", "82 a1 61 c0 01 c0", "82 00 c0 a0 c0",
		// names that occur twice
		"82 a0 c0 a0 c0", "82 a1 61 00 a1 61 01", "83 a1 61 00 a1 62 01 a1 61 02", "91 82 a0 c0 a0 c0", "81 a1 61 82 a1 62 c0 a1 62 c0", "82 a1 61 81 a1 61 c0 a1 61 c0",
		// the other serialisations
		"7b 7d", "7b 22 61 22 3a 31 7d", "6e 75 6c 6c", "31 30", "a1 61 61 01", "f6 f6", "82 01 02 03", "18 18",
	}
}

func TestDecodeOfWhatIsNoNode(t *testing.T) {
	for _, digits := range noNodes() {
		s := bytesOf(digits)
		if expectDefined(t, s) {
			t.Error("the definition reads", digits)
		}
		for _, around := range []string{"\x91", "\x92\x00", "\x81\xa1a", "\x81", "\xdc\x00\x10" + strings.Repeat("\xc0", 15), "\x00"} {
			expectDefined(t, around+s)
			expectDefined(t, around+s+"\xc0")
		}
	}
}

func TestDecodeOfWhatFollowsOrIsMissing(t *testing.T) {
	for _, n := range samples() {
		text := textOf(n)
		for _, more := range []string{"\x00", "\xc0", "\xa0", "\x80", "\x90", "\xff", " ", text, text + text} {
			expectNoNode(t, text+more)
		}
		if len(text) > 400 {
			continue
		}
		for i := range len(text) {
			expectNoNode(t, text[:i])
			expectDefined(t, text[i+1:])
		}
	}
}

func TestDecodeOfChangedStrings(t *testing.T) {
	for _, n := range samples() {
		text := textOf(n)
		if len(text) > 25 {
			continue
		}
		for i := range len(text) {
			expectDefined(t, text[:i]+text[i+1:])
			for c := range 256 {
				// Within longer ones, only some bytes.
				if len(text) > 8 && c%16 > 1 && (c < 0xc0 || c > 0xe0) {
					continue
				}
				expectDefined(t, text[:i]+string([]byte{byte(c)})+text[i:])
				expectDefined(t, text[:i]+string([]byte{byte(c)})+text[i+1:])
			}
		}
	}
}

func TestNesting(t *testing.T) {
	for _, leaf := range []api.Node{null, node.Number(-1), node.Text("\x01"), list(), numbered()} {
		for levels := range 2 * api.MaxDepth {
			for _, deep := range []api.Node{inLists(leaf, levels), inMaps(leaf, levels), inBoth(leaf, levels)} {
				if levels < api.MaxDepth {
					expectBoth(t, deep, textOf(deep))
				} else {
					expectNeither(t, deep, api.ErrInvalid)
				}
				expectDefined(t, textOf(list(null, deep)))
				expectDefined(t, textOf(numbered(deep, list())))
			}
		}
	}
	for _, start := range []string{"\x91", "\x92", "\x81", "\x81\xa0", "\x81\x91", "\xdc\xff\xff", "\xde\xff\xff", "\xde\xff\xff\xa0", "\x8f\x8f"} {
		for _, bytes := range []int{30, 100, api.MaxBytes, 1 << 20} {
			deep := strings.Repeat(start, bytes/len(start)+1)
			expectNoNode(t, deep)
			expectNoNode(t, deep+"\xc0")
			expectNoNode(t, deep[:min(len(deep), api.MaxBytes-1)]+"\xc0")
		}
	}
}

func TestDecodeOfLongStrings(t *testing.T) {
	for _, part := range []string{"\x00", "\xa0", "\xa1a", "\x90", "\x80", "\xc0", "\xc1", "\xff", "p", "\xcf"} {
		for _, bytes := range []int{api.MaxBytes - 3, api.MaxBytes, api.MaxBytes + 1, 1 << 20} {
			long := strings.Repeat(part, bytes/len(part))
			for _, start := range []string{"", "\x91", "\x81\xa0", "\xdc\xff\xff", "\xdc\xff\xfd", "\xde\xff\xff", "\xde\x7f\xff"} {
				expectNoNode(t, start+long)
			}
		}
	}
}

// P8.2: EncodeAs and DecodeAs

var forms = []int{api.FormJSON, api.FormCBOR, api.FormPack}

// encodeIn and decodeIn are the serialisations with these numbers.
func encodeIn(form int, n api.Node) (string, api.Errno) {
	switch form {
	case api.FormJSON:
		return json.Encode(n)
	case api.FormCBOR:
		return cbor.Encode(n)
	}
	return pack.Encode(n)
}

func decodeIn(form int, s string) (api.Node, api.Errno) {
	switch form {
	case api.FormJSON:
		return json.Decode(s)
	case api.FormCBOR:
		return cbor.Decode(s)
	}
	return pack.Decode(s)
}

// expectAs checks both functions in each serialisation.
func expectAs(t *testing.T, n api.Node, s string) {
	t.Helper()
	for _, form := range forms {
		want, wantError := encodeIn(form, n)
		if got, e := pack.EncodeAs(form, n); e != wantError || got != want {
			t.Errorf("EncodeAs(%d) of kind %d: %d bytes %.30x, error %d; want %d bytes %.30x, error %d", form, n.Kind, len(got), got, e, len(want), want, wantError)
		}
		read, wantError := decodeIn(form, s)
		if got, e := pack.DecodeAs(form, s); e != wantError || !node.Same(got, read) {
			t.Errorf("DecodeAs(%d, %.30x): kind %d, %d items, error %d; want kind %d, error %d", form, s, got.Kind, len(got.Items), e, read.Kind, wantError)
		}
	}
}

func TestNumbersOfSerialisations(t *testing.T) {
	n := node.Map([]string{"n", "l"}, []api.Node{node.Number(-200), list(null, node.Text("x"))})
	for form, want := range map[int]string{
		1: `{"n":-200,"l":[null,"x"]}`,
		2: "\xa2\x61n\x38\xc7\x61l\x82\xf6\x61x",
		3: "\x82\xa1n\xd1\xff\x38\xa1l\x92\xc0\xa1x",
	} {
		if got, e := pack.EncodeAs(form, n); e != api.OK || got != want {
			t.Errorf("EncodeAs(%d): %x, error %d; want %x", form, got, e, want)
		}
		for _, other := range forms {
			got, e := pack.DecodeAs(other, want)
			if other == form && (e != api.OK || !node.Same(got, n)) || other != form && (e != api.ErrForm || !node.Same(got, null)) {
				t.Errorf("DecodeAs(%d, %x): kind %d, error %d", other, want, got.Kind, e)
			}
		}
	}
}

// A node comes back from each serialisation.
func TestNodesInEachSerialisation(t *testing.T) {
	for _, n := range samples() {
		for _, form := range forms {
			s, e := pack.EncodeAs(form, n)
			back, backError := pack.DecodeAs(form, s)
			if e != api.OK || backError != api.OK || !node.Same(back, n) {
				t.Errorf("kind %d, %d items: in %d, errors %d, %d", n.Kind, len(n.Items), form, e, backError)
			}
			expectAs(t, n, s)
			expectAs(t, n, s+" ")
			expectAs(t, n, s[:len(s)-1])
		}
	}
	for _, n := range broken() {
		for _, form := range forms {
			if s, e := pack.EncodeAs(form, n); e != api.ErrInvalid || s != "" {
				t.Errorf("EncodeAs(%d) of a broken node: %.30x, error %d", form, s, e)
			}
		}
		expectAs(t, n, n.Text)
	}
	for _, digits := range noNodes() {
		expectAs(t, null, bytesOf(digits))
	}
	for _, bytes := range []int{api.MaxBytes - 2, api.MaxBytes - 1, api.MaxBytes, api.MaxBytes + 1, api.MaxBytes + 2} {
		for _, n := range filled(bytes) {
			expectAs(t, n, textOf(n))
		}
	}
	for _, form := range forms {
		if s, e := pack.EncodeAs(form, node.Text(plain(api.MaxBytes))); e != api.ErrLimit || s != "" {
			t.Errorf("EncodeAs(%d) of a long node: %d bytes, error %d", form, len(s), e)
		}
	}
}

// noForms are numbers of no serialisation.
func noForms() []int {
	l := []int{math.MinInt, math.MinInt + 1, math.MaxInt, 1<<32 + 1, 1<<32 + 2, 1<<32 + 3, 257, 258, 259, '{', 0x80, 0xa0}
	for i := range 100 {
		l = append(l, -i, i+4)
	}
	return l
}

func TestNoSerialisation(t *testing.T) {
	long := node.Text(plain(api.MaxBytes))
	nodes := append(samples()[:40], long, list(long, api.Node{Kind: 9}))
	nodes = append(nodes, broken()...)
	for _, form := range noForms() {
		// This error comes before those of the serialisations.
		for _, n := range nodes {
			if s, e := pack.EncodeAs(form, n); e != api.ErrRange || s != "" {
				t.Errorf("EncodeAs(%d): %.30x, error %d", form, s, e)
			}
		}
		for _, s := range []string{"", "null", "{}", "[", "\xa0", "\xf6", "\xc0", "\x80", "\xc1", "\xff", "x", plain(api.MaxBytes + 1)} {
			if n, e := pack.DecodeAs(form, s); e != api.ErrRange || !node.Same(n, null) {
				t.Errorf("DecodeAs(%d, %.30x): kind %d, error %d", form, s, n.Kind, e)
			}
		}
	}
}

// P8.2: Guess

// guess is the definition of Guess for strings that are not empty.
func guess(first int) int {
	switch {
	case first == 123:
		return 1
	case first >= 160 && first <= 187:
		return 2
	case first >= 128 && first <= 143, first == 222:
		return 3
	}
	return 0
}

func TestGuess(t *testing.T) {
	if got := pack.Guess(""); got != 0 {
		t.Error("Guess of the empty string:", got)
	}
	found := map[int]int{}
	for first := range 256 {
		found[guess(first)]++
		start := string([]byte{byte(first)})
		for _, rest := range []string{"", "\x00", "}", "{", "\x80", "\xa0", "\xde", "\xff", "{}", plain(1000), plain(1 << 20)} {
			if got := pack.Guess(start + rest); got != guess(first) {
				t.Errorf("Guess(%.20x): %d; want %d", start+rest, got, guess(first))
			}
		}
	}
	if found[1] != 1 || found[2] != 28 || found[3] != 17 {
		t.Error("first bytes:", found)
	}
}

func TestGuessOfMaps(t *testing.T) {
	maps := []api.Node{named("", null), named("{", list()), inMaps(null, 7), numberedAs(no, words()...), numbered(leaves()...)}
	for count := range api.MaxItems + 1 {
		maps = append(maps, numbered(nulls(count)...))
	}
	for _, n := range maps {
		for _, form := range forms {
			s, e := pack.EncodeAs(form, n)
			if got := pack.Guess(s); e != api.OK || got != form {
				t.Errorf("Guess of a map of %d items in %d: %d, error %d", len(n.Items), form, got, e)
			}
		}
	}
}

// Rule 1 and consequences

// roomy returns a copy of n with more memory behind its names and items, also
// within the items, and a function that tells whether all of it is as it was.
func roomy(n api.Node) (api.Node, func() bool) {
	var unchanged []func() bool
	names := append(slices.Clone(n.Names), "behind", "behind that")
	items := append(slices.Clone(n.Items), node.Text("behind"), yes)
	for i, item := range n.Items {
		copied, asItWas := roomy(item)
		items[i] = copied
		unchanged = append(unchanged, asItWas)
	}
	beforeNames, beforeItems := slices.Clone(names), slices.Clone(items)
	n.Names, n.Items = names[:len(n.Names)], items[:len(n.Items)]
	return n, func() bool {
		for _, asItWas := range unchanged {
			if !asItWas() {
				return false
			}
		}
		return slices.Equal(names, beforeNames) && slices.EqualFunc(items, beforeItems, node.Same)
	}
}

func TestArgumentsStayAsTheyWere(t *testing.T) {
	for _, n := range append(samples(), broken()...) {
		given, asItWas := roomy(n)
		pack.Encode(given)
		for form := range 5 {
			pack.EncodeAs(form, given)
		}
		if !asItWas() {
			t.Errorf("a node of kind %d with %d items is changed", n.Kind, len(n.Items))
		}
	}
}

// overwrite writes into all memory that n has, also behind its items.
func overwrite(n api.Node) {
	for _, item := range n.Items[:cap(n.Items)] {
		overwrite(item)
	}
	for i := range cap(n.Items) {
		n.Items[:cap(n.Items)][i] = node.Text("overwritten")
	}
	for i := range cap(n.Names) {
		n.Names[:cap(n.Names)][i] = "overwritten"
	}
}

func TestResultsShareNoMemory(t *testing.T) {
	for _, n := range samples() {
		for _, form := range forms {
			s, _ := encodeIn(form, n)
			first, _ := pack.DecodeAs(form, s)
			second, _ := pack.DecodeAs(form, s)
			overwrite(first)
			if !node.Same(second, n) {
				t.Errorf("two results of DecodeAs(%d, %.30x) share memory", form, s)
			}
			for i, item := range second.Items {
				overwrite(item)
				if !slices.EqualFunc(second.Items[i+1:], n.Items[i+1:], node.Same) || !slices.Equal(second.Names, n.Names) {
					t.Errorf("items of DecodeAs(%d, %.30x) share memory", form, s)
				}
			}
		}
	}
}

func TestDifferentNodesHaveDifferentBytes(t *testing.T) {
	nodes := map[string]api.Node{}
	for _, n := range samples() {
		s, e := pack.Encode(n)
		if other, ok := nodes[s]; e != api.OK || ok && !node.Same(n, other) {
			t.Errorf("Encode: error %d, or the bytes %.30x are another node's", e, s)
		}
		nodes[s] = n
	}
	if len(nodes) < 250 {
		t.Error("different nodes:", len(nodes))
	}
}

// fromBytes makes a node of bytes, mostly a valid one.
func fromBytes(b []byte, levels int) (n api.Node, rest []byte) {
	if len(b) < 3 {
		return null, nil
	}
	choice, size, rest := b[0], int(b[1])%5, b[2:]
	switch choice % 8 {
	case 0:
		return api.Node{Kind: int(choice) / 8 % 7, Bool: choice > 250}, rest
	case 1, 2:
		return node.Number((int(b[1]) - 128) << (choice / 4)), rest
	case 3:
		size = min(int(b[1])%40, len(rest))
		return node.Text(strings.ToValidUTF8(string(rest[:size]), "\u00a0")), rest[size:]
	}
	n.Kind = api.NodeList + int(choice)/8%2
	for i := range size {
		if levels == 0 {
			break
		}
		var item api.Node
		item, rest = fromBytes(rest, levels-1)
		n.Items = append(n.Items, item)
		if n.Kind == api.NodeMap {
			n.Names = append(n.Names, strings.Repeat("k", i+int(choice)/16*8))
		}
	}
	return n, rest
}

// expectAll checks all promises of a node and a string.
func expectAll(t *testing.T, n api.Node, s string) {
	t.Helper()
	if !node.Valid(n) {
		expectNoText(t, n, api.ErrInvalid)
	} else if text := textOf(n); len(text) > api.MaxBytes {
		expectNeither(t, n, api.ErrLimit)
	} else {
		expectBoth(t, n, text)
		expectDefined(t, text)
	}
	expectDefined(t, s)
	expectAs(t, n, s)
	if s != "" && pack.Guess(s) != guess(int(s[0])) {
		t.Errorf("Guess(%.20x): %d", s, pack.Guess(s))
	}
}

func TestNodesOfManyBytes(t *testing.T) {
	state := uint32(8)
	valid := 0
	for range 10000 {
		b := make([]byte, 150)
		for i := range b {
			state = state*1664525 + 1013904223
			b[i] = byte(state >> 24)
		}
		n, _ := fromBytes(b, api.MaxDepth)
		if node.Valid(n) && len(n.Items) > 1 {
			valid++
		}
		expectAll(t, n, string(b[:state>>20%16]))
	}
	if valid < 1000 {
		t.Error("valid nodes with items:", valid)
	}
}

// FuzzAll looks for nodes and strings that break a promise.
func FuzzAll(f *testing.F) {
	for _, n := range samples() {
		if text := textOf(n); len(text) < 1000 {
			f.Add(text)
		}
	}
	for _, digits := range noNodes() {
		f.Add(bytesOf(digits))
	}
	f.Fuzz(func(t *testing.T, s string) {
		if len(s) > 1<<12 {
			return
		}
		n, _ := fromBytes([]byte(s), api.MaxDepth)
		expectAll(t, n, s)
		expectAll(t, node.Text(s), "\x91"+s)
	})
}
