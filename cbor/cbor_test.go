package cbor

import (
	"encoding/binary"
	"encoding/hex"
	"math"
	"slices"
	"strconv"
	"strings"
	"testing"
	"unicode/utf8"

	"keyevent/api"
	"keyevent/node"
)

var (
	null  = api.Node{}
	right = api.Node{Kind: api.NodeBool, Bool: true}
	wrong = api.Node{Kind: api.NodeBool}
)

func list(items ...api.Node) api.Node { return node.List(items) }

// mapOf returns the map of names and numbers, each its place.
func mapOf(names ...string) api.Node {
	var items []api.Node
	for i := range names {
		items = append(items, node.Number(i))
	}
	return node.Map(names, items)
}

// only returns the map of one item.
func only(name string, item api.Node) api.Node {
	return node.Map([]string{name}, []api.Node{item})
}

// namesOf returns so many names, all different.
func namesOf(count int) []string {
	var l []string
	for i := range count {
		l = append(l, "n"+strconv.Itoa(i))
	}
	return l
}

// nested returns n within so many lists, maps, or both in turns.
func nested(n api.Node, levels int, kinds ...int) api.Node {
	for i := range levels {
		if kinds[i%len(kinds)] == api.NodeMap {
			n = only("in", n)
		} else {
			n = list(n)
		}
	}
	return n
}

// plain returns so many characters.
func plain(count int) string { return strings.Repeat("x", count) }

// unhex returns the bytes of hexadecimal digits.
func unhex(digits string) string {
	b, err := hex.DecodeString(strings.ReplaceAll(digits, " ", ""))
	if err != nil {
		panic(digits)
	}
	return string(b)
}

// longHead returns the head whose number follows in so many bytes.
func longHead(major int, number uint64, width int) string {
	following := map[int]int{1: 24, 2: 25, 4: 26, 8: 27}
	all := binary.BigEndian.AppendUint64([]byte(nil), number)
	return string([]byte{byte(major*32 + following[width])}) + string(all[8-width:])
}

// headText is the definition of a head.
func headText(major int, number uint64) string {
	switch {
	case number < 24:
		return string([]byte{byte(major*32 + int(number))})
	case number <= math.MaxUint8:
		return longHead(major, number, 1)
	case number <= math.MaxUint16:
		return longHead(major, number, 2)
	case number <= math.MaxUint32:
		return longHead(major, number, 4)
	}
	return longHead(major, number, 8)
}

// textHead returns a text with its head.
func textHead(s string) string { return headText(3, uint64(len(s))) + s }

// textOf is the definition of the bytes of a valid node.
func textOf(n api.Node) string {
	var text strings.Builder
	switch {
	case n.Kind == api.NodeNull:
		return "\xf6"
	case n.Kind == api.NodeBool && n.Bool:
		return "\xf5"
	case n.Kind == api.NodeBool:
		return "\xf4"
	case n.Kind == api.NodeNumber && n.Number >= 0:
		return headText(0, uint64(n.Number))
	case n.Kind == api.NodeNumber:
		return headText(1, uint64(-1-n.Number))
	case n.Kind == api.NodeText:
		return textHead(n.Text)
	case n.Kind == api.NodeList:
		text.WriteString(headText(4, uint64(len(n.Items))))
	case n.Kind == api.NodeMap:
		text.WriteString(headText(5, uint64(len(n.Items))))
	}
	for i, item := range n.Items {
		if n.Kind == api.NodeMap {
			text.WriteString(textHead(n.Names[i]))
		}
		text.WriteString(textOf(item))
	}
	return text.String()
}

// splitHead returns the head that s begins with, and what follows, if it is the
// shortest one.
func splitHead(s string) (major int, number uint64, rest string, ok bool) {
	if s == "" {
		return 0, 0, "", false
	}
	for _, length := range []int{1, 2, 3, 5, 9} {
		if length > len(s) {
			return 0, 0, "", false
		}
		all := append(make([]byte, 8), s[1:length]...)
		number = binary.BigEndian.Uint64(all[len(all)-8:])
		if length == 1 {
			number = uint64(s[0] % 32)
		}
		if major = int(s[0] / 32); headText(major, number) == s[:length] {
			return major, number, s[length:], true
		}
	}
	return 0, 0, "", false
}

// read returns the node that s begins with, and what follows.
func read(s string) (n api.Node, rest string, ok bool) {
	for start, n := range map[string]api.Node{"\xf4": wrong, "\xf5": right, "\xf6": null} {
		if strings.HasPrefix(s, start) {
			return n, s[1:], true
		}
	}
	major, number, rest, ok := splitHead(s)
	if !ok || number > math.MaxInt {
		return null, "", false
	}
	switch major {
	case 0:
		return node.Number(int(number)), rest, true
	case 1:
		return node.Number(-int(number) - 1), rest, true
	case 3:
		if int(number) > len(rest) {
			return null, "", false
		}
		return node.Text(rest[:number]), rest[number:], true
	case 4:
		n.Kind = api.NodeList
	case 5:
		n.Kind = api.NodeMap
	default:
		return null, "", false
	}
	for range number {
		var item api.Node
		if major == 5 {
			item, rest, ok = read(rest)
			if n.Names = append(n.Names, item.Text); !ok || item.Kind != api.NodeText {
				return null, "", false
			}
		}
		if item, rest, ok = read(rest); !ok {
			return null, "", false
		}
		n.Items = append(n.Items, item)
	}
	return n, rest, true
}

// nodeOf returns the valid node whose bytes are s, and whether there is one,
// without the package.
func nodeOf(s string) (api.Node, bool) {
	if len(s) > api.MaxBytes {
		return null, false
	}
	n, rest, ok := read(s)
	if !ok || rest != "" || !node.Valid(n) {
		return null, false
	}
	return n, true
}

// odd are texts of many lengths, some of them with bytes that are heads too.
func odd() []string {
	l := []string{
		"", "a", "A", " ", "\x00", "\x01\x1f", "\x7f", "\n", "\"", "`", "``", "a``", "aa", "aaa", "\u0080", "\u00e9", "e\u0301", "\u2028", "\ufeff",
		"\ufffd", "\uffff", "\ud7ff\ue000", "\U0001f600", "\U0010ffff", "null", "\u00f6", "\x18\x18", "\x1b\x00\x00\x00\x00\x00\x00\x00\x00",
	}
	for _, count := range []int{22, 23, 24, 25, 31, 32, 33, 127, 128, 254, 255, 256, 257, 1000} {
		l = append(l, plain(count), strings.Repeat("\u00e9", count/2)+plain(count%2))
	}
	return l
}

// notUTF8 are strings that are no valid UTF-8.
func notUTF8() []string {
	return []string{
		"\x80", "\xbf", "\xc3", "\xc0\x80", "\xe2\x82", "\xed\xa0\x80", "\xed\xbf\xbf", "\xf0\x9f\x98", "\xf4\x90\x80\x80", "\xf8\x88\x80\x80\x80",
		"\xff", "\xfe", "a\xff", "\xffa", "\u00e9\xa9", "\xc3\xf6", plain(23) + "\xff", "\xff" + plain(254), plain(65534) + "\xff",
	}
}

// wide are numbers at which a head grows, and others around powers of two.
func wide() []uint64 {
	l := []uint64{0, 22, 23, 24, 25, 100, 1000, 1000000, 1e12, math.MaxUint64, math.MaxUint64 - 1, 0x0102030405060708, 0xfffefdfcfbfaf9f8}
	for bits := range 64 {
		power := uint64(1) << bits
		l = append(l, power-1, power, power+1, power+power/2)
	}
	return l
}

// numbers are numbers of all lengths.
func numbers() []int {
	l := []int{math.MaxInt, math.MaxInt - 1, math.MinInt, math.MinInt + 1, api.MaxNumber, api.MaxNumber + 1}
	for _, number := range wide() {
		if number <= math.MaxInt {
			l = append(l, int(number), -int(number), -1-int(number))
		}
	}
	return l
}

// samples are valid nodes of each kind, and lists and maps within one another.
func samples() []api.Node {
	l := []api.Node{null, wrong, right, list(), node.Map(nil, nil)}
	for _, number := range []int{
		0, 1, 23, 24, 100, 255, 256, 258, 65535, 65536, 16909060, 1<<32 - 1, 1 << 32, 72623859790382856, math.MaxInt,
		-1, -24, -25, -128, -256, -257, -65536, -65537, -1 << 32, -1<<32 - 1, math.MinInt,
	} {
		l = append(l, node.Number(number))
	}
	for _, s := range odd() {
		l = append(l, node.Text(s), only(s, null))
	}
	inner := node.Map([]string{"", "b", "a"}, []api.Node{list(), mapOf(), list(null, wrong, right, node.Number(-1), node.Text("x"))})
	l = append(l,
		list(null), list(null, null), list(wrong, right, null), list(node.Number(1), node.Number(-2), node.Number(300)), list(node.Text("a"), node.Text("")),
		list(list()), list(list(), list()), list(list(list()), list()), list(mapOf(), mapOf()), only("a", mapOf()), only("a", list()),
		only("", only("", mapOf())), mapOf("a"), mapOf("a", "b"), mapOf("b", "a"), mapOf("a", "A", "aa", ""),
		node.Texts(odd()), node.Map(odd(), node.Texts(odd()).Items),
		inner, list(inner, inner), only("x", inner), node.Map([]string{"a", "b", "c"}, []api.Node{inner, node.Number(0), inner}),
		nested(null, api.MaxDepth-1, api.NodeList), nested(node.Text("y"), api.MaxDepth-1, api.NodeMap),
		nested(mapOf(), api.MaxDepth-1, api.NodeList, api.NodeMap),
	)
	for _, count := range []int{22, 23, 24, 25, 31, 32, 127, 128, 254, 255, 256} {
		l = append(l, list(make([]api.Node, count)...), mapOf(namesOf(count)...), node.Texts(namesOf(count)))
	}
	return l
}

// broken are nodes that are not valid.
func broken() []api.Node {
	one := []api.Node{null}
	l := []api.Node{
		{Kind: 6}, {Kind: 7}, {Kind: -1}, {Kind: math.MaxInt}, {Kind: math.MinInt}, {Bool: true}, {Number: 1}, {Text: "x"}, {Items: one},
		{Names: []string{"a"}}, {Kind: api.NodeBool, Number: 1}, {Kind: api.NodeNumber, Bool: true}, {Kind: api.NodeNumber, Text: "x"},
		{Kind: api.NodeText, Number: 1}, {Kind: api.NodeText, Items: one},
		{Kind: api.NodeList, Text: "x"}, {Kind: api.NodeList, Names: []string{"a"}, Items: one}, {Kind: api.NodeMap, Bool: true},
		list(make([]api.Node, api.MaxItems+1)...), mapOf(namesOf(api.MaxItems + 1)...),
		mapOf("a", "a"), mapOf("a", "b", "a"), mapOf("", ""), node.Map([]string{"a", "b"}, one), node.Map([]string{"a"}, make([]api.Node, 2)),
		node.Map(nil, one), node.Map([]string{"a"}, nil),
		node.Text(plain(api.MaxBytes + 1)), only(plain(api.MaxBytes+1), null),
		nested(null, api.MaxDepth, api.NodeList), nested(null, api.MaxDepth, api.NodeMap),
		nested(list(), api.MaxDepth, api.NodeMap, api.NodeList), nested(null, 1000, api.NodeList),
	}
	for _, s := range notUTF8() {
		l = append(l, node.Text(s), only(s, null))
	}
	return l
}

func checkHead(t *testing.T, major int, number uint64, want string) {
	t.Helper()
	if got, e := Head(major, number); e != api.OK || got != want {
		t.Errorf("Head(%d, %d): %x, %d; want %x", major, number, got, e, want)
	}
}

func checkNoHead(t *testing.T, major int, number uint64) {
	t.Helper()
	if got, e := Head(major, number); e != api.ErrRange || got != "" {
		t.Errorf("Head(%d, %d): %x, %d; want %d alone", major, number, got, e, api.ErrRange)
	}
}

func checkEncode(t *testing.T, n api.Node, want string) {
	t.Helper()
	if got, e := Encode(n); e != api.OK || got != want {
		t.Errorf("Encode: %d bytes %.40x, %d; want %d bytes %.40x", len(got), got, e, len(want), want)
	}
}

func checkNotEncoded(t *testing.T, n api.Node, want api.Errno) {
	t.Helper()
	if got, e := Encode(n); e != want || got != "" {
		t.Errorf("Encode of kind %d, text %.16q, %d items: %d bytes, %d; want %d alone", n.Kind, n.Text, len(n.Items), len(got), e, want)
	}
}

func checkDecode(t *testing.T, s string, want api.Node) {
	t.Helper()
	if got, e := Decode(s); e != api.OK || !node.Same(got, want) || !node.Valid(got) {
		t.Errorf("Decode(%.40x) of %d bytes: kind %d, number %d, text %.16q, %d items, %d", s, len(s), got.Kind, got.Number, got.Text, len(got.Items), e)
	}
}

func checkNotDecoded(t *testing.T, s string) {
	t.Helper()
	if got, e := Decode(s); e != api.ErrForm || !node.Same(got, null) {
		t.Errorf("Decode(%.40x) of %d bytes: kind %d, %d items, %d; want %d alone", s, len(s), got.Kind, len(got.Items), e, api.ErrForm)
	}
}

// checkText checks Decode on any string, against the definition.
func checkText(t *testing.T, s string) bool {
	t.Helper()
	want, ok := nodeOf(s)
	if ok {
		checkDecode(t, s, want)
		checkEncode(t, want, s)
	} else {
		checkNotDecoded(t, s)
	}
	return ok
}

// P7.1: Head

func TestHead(t *testing.T) {
	for _, x := range []struct {
		major  int
		number uint64
		digits string
	}{
		{0, 0, "00"}, {0, 1, "01"}, {0, 23, "17"}, {0, 24, "1818"}, {0, 25, "1819"}, {0, 255, "18ff"}, {0, 256, "190100"}, {0, 65535, "19ffff"},
		{0, 65536, "1a00010000"}, {0, 1<<32 - 1, "1affffffff"}, {0, 1 << 32, "1b0000000100000000"}, {0, 1<<64 - 1, "1bffffffffffffffff"},
		{0, 0x0102, "190102"}, {0, 0x01020304, "1a01020304"}, {0, 0x0102030405060708, "1b0102030405060708"},
		{1, 0, "20"}, {1, 23, "37"}, {1, 24, "3818"}, {1, 1<<64 - 1, "3bffffffffffffffff"},
		{2, 0, "40"}, {2, 4, "44"}, {2, 256, "590100"}, {3, 0, "60"}, {3, 24, "7818"}, {3, 1 << 16, "7a00010000"}, {4, 23, "97"}, {4, 255, "98ff"},
		{5, 2, "a2"}, {5, 1 << 32, "bb0000000100000000"}, {6, 0, "c0"}, {6, 32, "d820"}, {7, 20, "f4"}, {7, 21, "f5"}, {7, 22, "f6"}, {7, 23, "f7"},
		{7, 24, "f818"}, {7, 255, "f8ff"}, {7, 1<<64 - 1, "fbffffffffffffffff"},
	} {
		checkHead(t, x.major, x.number, unhex(x.digits))
	}
}

func TestHeadOfEachMajor(t *testing.T) {
	for major := range 8 {
		for number := range uint64(1 << 17) {
			checkHead(t, major, number, headText(major, number))
		}
		for _, number := range wide() {
			checkHead(t, major, number, headText(major, number))
		}
	}
}

func TestHeadOfNoMajor(t *testing.T) {
	for _, number := range wide() {
		for _, major := range []int{-1, -2, -7, -8, -256, 8, 9, 15, 16, 31, 32, 255, 256, 263, 1 << 32, 1<<32 + 3, math.MaxInt, math.MinInt, math.MinInt + 1} {
			checkNoHead(t, major, number)
		}
	}
	for major := range 1000 {
		checkNoHead(t, major+8, 0)
		checkNoHead(t, -1-major, 0)
	}
}

// P7.1: Encode

// The examples of the published format that nodes have.
func TestEncode(t *testing.T) {
	number := node.Number
	one := list(number(1), list(number(2), number(3)), list(number(4), number(5)))
	var many []api.Node
	for i := range 25 {
		many = append(many, number(i+1))
	}
	for _, x := range []struct {
		n      api.Node
		digits string
	}{
		{null, "f6"}, {right, "f5"}, {wrong, "f4"},
		{number(0), "00"}, {number(1), "01"}, {number(10), "0a"}, {number(23), "17"}, {number(24), "1818"}, {number(25), "1819"}, {number(100), "1864"},
		{number(255), "18ff"}, {number(256), "190100"}, {number(1000), "1903e8"}, {number(65535), "19ffff"}, {number(65536), "1a00010000"},
		{number(1000000), "1a000f4240"}, {number(1<<32 - 1), "1affffffff"}, {number(1 << 32), "1b0000000100000000"},
		{number(1000000000000), "1b000000e8d4a51000"}, {number(math.MaxInt), "1b7fffffffffffffff"},
		{number(-1), "20"}, {number(-10), "29"}, {number(-24), "37"}, {number(-25), "3818"}, {number(-100), "3863"}, {number(-256), "38ff"},
		{number(-257), "390100"}, {number(-1000), "3903e7"}, {number(-65536), "39ffff"}, {number(-65537), "3a00010000"},
		{number(-1 << 32), "3affffffff"}, {number(-1<<32 - 1), "3b0000000100000000"}, {number(math.MinInt), "3b7fffffffffffffff"},
		{node.Text(""), "60"}, {node.Text("a"), "6161"}, {node.Text("IETF"), "6449455446"}, {node.Text("\"\\"), "62225c"}, {node.Text("\u00fc"), "62c3bc"},
		{node.Text("\u6c34"), "63e6b0b4"}, {node.Text("\U00010151"), "64f0908591"}, {node.Text(strings.Repeat("y", 24)), "7818" + strings.Repeat("79", 24)},
		{list(), "80"}, {list(number(1), number(2), number(3)), "83010203"}, {one, "8301820203820405"}, {list(wrong, right, null), "83f4f5f6"},
		{list(many...), "98190102030405060708090a0b0c0d0e0f101112131415161718181819"},
		{mapOf(), "a0"}, {node.Map([]string{"a", "b"}, []api.Node{number(1), list(number(2), number(3))}), "a26161016162820203"},
		{list(node.Text("a"), only("b", node.Text("c"))), "826161a161626163"},
		{node.Map([]string{"a", "b", "c", "d", "e"}, node.Texts([]string{"A", "B", "C", "D", "E"}).Items), "a56161614161626142616361436164614461656145"},
		{mapOf("b", "a"), "a2616200616101"}, {only("", only("", null)), "a160a160f6"}, {list(list(), mapOf()), "8280a0"},
	} {
		checkEncode(t, x.n, unhex(x.digits))
		checkDecode(t, unhex(x.digits), x.n)
	}
}

func TestEncodeOfSamples(t *testing.T) {
	for _, n := range samples() {
		checkEncode(t, n, textOf(n))
	}
}

// nil and empty lists mean the same.
func TestEncodeOfEmptyLists(t *testing.T) {
	for _, n := range []api.Node{null, right, wrong, node.Number(5), node.Text("a"), list(), mapOf()} {
		empty := n
		empty.Names, empty.Items = make([]string, 0, 2), make([]api.Node, 0, 2)
		checkEncode(t, empty, textOf(n))
	}
}

func TestEncodeOfNodesThatAreNotValid(t *testing.T) {
	for _, n := range broken() {
		checkNotEncoded(t, n, api.ErrInvalid)
		for i := range 3 {
			items := make([]api.Node, 3)
			items[i] = n
			checkNotEncoded(t, list(items...), api.ErrInvalid)
			checkNotEncoded(t, node.Map(namesOf(3), items), api.ErrInvalid)
		}
	}
}

// filled returns nodes that have so many bytes, each in another way.
func filled(count int) []api.Node {
	// What a text or name must have in the place of an empty one so that n has so
	// many bytes: its head is longer by two bytes.
	rest := func(n api.Node) string { return plain(count - len(textOf(n)) - 2) }
	empty := node.Text("")
	l := []api.Node{
		node.Text(rest(empty)), list(node.Text(rest(list(empty)))), only(rest(only("", null)), null), only("a", node.Text(rest(only("a", empty)))),
		list(null, node.Text(rest(list(null, empty)))), list(node.Text(rest(list(empty, null))), null),
		nested(node.Text(rest(nested(empty, api.MaxDepth-1, api.NodeMap))), api.MaxDepth-1, api.NodeMap),
		node.Map([]string{"a", "b"}, []api.Node{node.Text(rest(node.Map([]string{"a", "b"}, []api.Node{empty, null}))), null}),
	}
	parts := make([]api.Node, 100)
	for i := range parts {
		parts[i] = node.Text(strings.Repeat("\u00e9", 300))
	}
	for _, i := range []int{0, 50, 99} {
		some := slices.Clone(parts)
		some[i] = empty
		some[i] = node.Text(rest(list(some...)))
		l = append(l, list(some...))
	}
	// Only heads, but for one text.
	rows := make([]api.Node, 200)
	for i := range rows {
		rows[i] = list(make([]api.Node, 250)...)
	}
	rows[40] = empty
	rows[40] = node.Text(rest(list(rows...)))
	return append(l, list(rows...))
}

func TestLimitOfBytes(t *testing.T) {
	for _, less := range []int{0, 1, 2, 100} {
		for _, n := range filled(api.MaxBytes - less) {
			text := textOf(n)
			if len(text) != api.MaxBytes-less {
				t.Fatal("bytes:", len(text))
			}
			checkEncode(t, n, text)
			checkDecode(t, text, n)
		}
	}
	for _, more := range []int{1, 2} {
		for _, n := range filled(api.MaxBytes + more) {
			if len(textOf(n)) != api.MaxBytes+more || !node.Valid(n) {
				t.Fatal("bytes:", len(textOf(n)))
			}
			checkNotEncoded(t, n, api.ErrLimit)
			checkNotDecoded(t, textOf(n))
		}
	}
	for _, count := range []int{api.MaxBytes - 2, api.MaxBytes - 1, api.MaxBytes} {
		checkNotEncoded(t, node.Text(plain(count)), api.ErrLimit)
		checkNotEncoded(t, only(plain(count), null), api.ErrLimit)
		checkNotDecoded(t, textHead(plain(count)))
	}
}

// The whole node is checked before the limit.
func TestEncodeOfLongNodesThatAreNotValid(t *testing.T) {
	long := node.Text(plain(api.MaxBytes))
	checkNotEncoded(t, list(long, long), api.ErrLimit)
	for _, n := range broken() {
		checkNotEncoded(t, list(long, long, n), api.ErrInvalid)
		checkNotEncoded(t, list(n, long, long), api.ErrInvalid)
		checkNotEncoded(t, node.Map([]string{"a", "b"}, []api.Node{long, list(long, n)}), api.ErrInvalid)
	}
}

// A valid node may be far longer than the limit.
func TestEncodeOfVeryLongNodes(t *testing.T) {
	part := node.Text(plain(1 << 12))
	row := make([]api.Node, api.MaxItems)
	for i := range row {
		row[i] = part
	}
	rows := make([]api.Node, api.MaxItems)
	for i := range rows {
		rows[i] = list(row...)
	}
	checkNotEncoded(t, list(rows...), api.ErrLimit)
	checkNotEncoded(t, node.Map(namesOf(api.MaxItems), rows), api.ErrLimit)
}

// P7.2

func TestDecodeOfSamples(t *testing.T) {
	for _, n := range samples() {
		checkDecode(t, textOf(n), n)
		if !checkText(t, textOf(n)) {
			t.Errorf("the definition does not read %.40x", textOf(n))
		}
	}
}

func TestNumbers(t *testing.T) {
	for _, number := range numbers() {
		n := node.Number(number)
		for _, whole := range []api.Node{n, list(n), list(n, n), only("a", n)} {
			checkEncode(t, whole, textOf(whole))
			checkDecode(t, textOf(whole), whole)
		}
	}
	for number := -70000; number <= 70000; number++ {
		checkEncode(t, node.Number(number), textOf(node.Number(number)))
		checkDecode(t, textOf(node.Number(number)), node.Number(number))
	}
}

// A head has one form, the shortest.
func TestDecodeOfHeads(t *testing.T) {
	for _, number := range wide() {
		for _, width := range []int{1, 2, 4, 8} {
			if width < 8 && number>>(8*width) > 0 {
				continue
			}
			for major := range 8 {
				s := longHead(major, number, width)
				shortest := s == headText(major, number)
				if ok := checkText(t, s); ok != (shortest && major < 2 && number <= math.MaxInt) {
					t.Errorf("Decode takes the head %x: %t", s, ok)
				}
				if checkText(t, "\x81"+s) || checkText(t, "\xa1\x61a"+s) {
					if !shortest || major >= 2 {
						t.Errorf("Decode takes the head %x within a node", s)
					}
				}
				if number > 1000 {
					continue
				}
				// The number is a length here.
				for _, rest := range []string{plain(int(number)), strings.Repeat("\x00", int(number)), strings.Repeat("\x60", int(number))} {
					if checkText(t, s+rest) && !shortest {
						t.Errorf("Decode takes the head %x", s)
					}
				}
				var items strings.Builder
				for _, name := range namesOf(int(number)) {
					items.WriteString(textHead(name) + "\xf6")
				}
				if checkText(t, s+items.String()) && !shortest {
					t.Errorf("Decode takes the head %x of a map", s)
				}
			}
		}
	}
}

// TestDecodeOfShortStrings goes through all strings of up to two bytes, and
// longer ones of some bytes.
func TestDecodeOfShortStrings(t *testing.T) {
	found := map[int]int{}
	count := func(s string) {
		if checkText(t, s) {
			found[len(s)]++
		}
	}
	for a := range 256 {
		count(string([]byte{byte(a)}))
		for b := range 256 {
			count(string([]byte{byte(a), byte(b)}))
		}
	}
	// 0 to 23, -1 to -24, an empty text, list and map, and three more
	if found[1] != 24+24+3+3 {
		t.Error("nodes of one byte:", found[1])
	}
	// 232 numbers from 24 on and as many from -25 on, 128 texts, 54 lists
	if found[2] != 232+232+128+54 {
		t.Error("nodes of two bytes:", found[2])
	}
	all := []string{""}
	for range 5 {
		var longer []string
		for _, s := range all {
			for _, c := range []byte("\x00\x17\x18\x19\x37\x38\x60\x61\x80\x81\x82\xa0\xa1\xa2\xf6\xf7") {
				longer = append(longer, s+string([]byte{c}))
			}
		}
		for _, s := range longer {
			if len(s) > 2 {
				count(s)
			}
		}
		all = longer
	}
	if found[3] < 20 || found[4] < 100 || found[5] < 500 {
		t.Error("nodes:", found)
	}
}

// refused are strings that are no node's bytes, in hexadecimal.
func refused() []string {
	return []string{
		"", "20 20", "00 00", "f6 f6", "00 f6", "80 80", "a0 a0", "60 60", "60 61",
		// low bits and majors that no node has
		"1c", "1d", "1e", "1f", "3c", "3d", "3e", "3f", "40", "41 61", "44 01 02 03 04", "58 18", "5f", "5f ff", "7c", "7d", "7e", "7f", "7f 61 61 ff",
		"9c", "9f", "9f ff", "9f 01 ff", "bc", "bf", "bf ff", "bf 61 61 01 ff", "c0 01", "c1 00", "c2 41 01", "d8 20 60", "d9 d9 f7 00", "e0", "e7",
		"f0", "f3", "f7", "f8", "f8 00", "f8 14", "f8 15", "f8 16", "f8 18", "f8 20", "f8 ff", "f8 f4", "f9 00 00", "f9 00 16", "f9 3c 00", "f9 7e 00",
		"fa 47 c3 50 00", "fa 00 00 00 16", "fb 3f f1 99 99 99 99 99 9a", "fb 00 00 00 00 00 00 00 16", "fc", "fd", "fe", "ff",
		// longer heads
		"18 00", "18 17", "19 00 00", "19 00 18", "19 00 ff", "1a 00 00 00 00", "1a 00 00 ff ff", "1b 00 00 00 00 00 00 00 00", "1b 00 00 00 00 ff ff ff ff",
		"38 00", "38 17", "39 00 ff", "3a 00 00 ff ff", "3b 00 00 00 00 ff ff ff ff", "78 00", "78 01 61", "79 00 01 61", "7a 00 00 00 01 61",
		"7b 00 00 00 00 00 00 00 01 61", "98 00", "98 01 00", "99 00 01 00", "9a 00 00 00 01 00", "9b 00 00 00 00 00 00 00 01 00", "b8 00",
		"b8 01 61 61 00", "b9 00 01 61 61 00", "ba 00 00 00 01 61 61 00", "bb 00 00 00 00 00 00 00 01 61 61 00", "a1 78 01 61 00",
		// numbers that no node has
		"1b 80 00 00 00 00 00 00 00", "1b ff ff ff ff ff ff ff ff", "3b 80 00 00 00 00 00 00 00", "3b ff ff ff ff ff ff ff ff", "1b 80 00 00 00 00 00 00 01",
		"3b 80 00 00 00 00 00 00 01", "81 1b 80 00 00 00 00 00 00 00", "a1 60 3b ff ff ff ff ff ff ff fe",
		// heads that end too early
		"18", "19", "19 01", "1a", "1a 01", "1a 01 00 00", "1b", "1b 01 00 00 00 00 00 00", "38", "39 01", "3a 01 00 00", "3b 01 00 00 00 00 00 00",
		"78", "79 01", "7a 00", "7b", "98", "99", "99 01", "9a", "9b", "b8", "b9", "ba", "bb",
		// texts
		"61", "62 61", "61 61 61", "60 00", "77", "78 18", "78 ff 61", "79 01 00 61", "79 ff ff 61", "7a 00 01 00 00", "7a ff ff ff ff",
		"7b 00 00 00 01 00 00 00 00", "7b 7f ff ff ff ff ff ff ff 61", "7b 80 00 00 00 00 00 00 00 61", "7b ff ff ff ff ff ff ff ff 61",
		"61 80", "61 ff", "61 c3", "62 c3 28", "62 c0 80", "63 ed a0 80", "64 f4 90 80 80", "61 c3 a9", "64 61 c3 a9",
		// lists
		"81", "82", "82 01", "83 01 02", "81 01 02", "80 00", "80 ff", "81 81", "81 82 01", "82 81 01", "81 18", "81 f7", "81 41 61", "81 61 ff", "97", "98 18",
		"98 ff", "99 01 00", "9a 00 01 00 00", "9b 00 00 00 01 00 00 00 00", "9b 7f ff ff ff ff ff ff ff", "9b 80 00 00 00 00 00 00 00 00",
		"9b ff ff ff ff ff ff ff ff 00", "9b ff ff ff ff ff ff ff ff",
		// maps
		"a1", "a1 60", "a1 61", "a1 61 61", "a1 61 61 f7", "a1 01 01", "a1 20 01", "a1 f6 01", "a1 f5 01", "a1 80 01", "a1 a0 01", "a1 41 61 01", "a1 61 ff 01",
		"a1 60 00 00", "a1 60 00 60", "a2 60 00", "a2 60 00 61 61", "a2 60 00 01 00", "a1 81 60 00", "a1 a1 60 00 00", "b8 18 60 00", "bb 00 00 00 01 00 00 00 00",
		"bb 7f ff ff ff ff ff ff ff 60 00", "bb 80 00 00 00 00 00 00 00 60 00", "bb ff ff ff ff ff ff ff ff 60 00", "bb ff ff ff ff ff ff ff ff",
		// names that occur twice
		"a2 60 00 60 00", "a2 61 61 01 61 61 02", "a3 61 61 01 61 62 02 61 61 03", "81 a2 60 00 60 00", "a1 61 78 a2 61 61 f6 61 61 f6",
		"a2 61 61 a1 61 61 00 61 61 00",
	}
}

func TestDecodeOfWhatIsNoNode(t *testing.T) {
	for _, digits := range refused() {
		s := unhex(digits)
		if checkText(t, s) {
			t.Error("the definition reads", digits)
		}
		checkText(t, "\x81"+s)
		checkText(t, "\x82\x00"+s)
		checkText(t, "\xa1\x61a"+s)
		checkText(t, "\xa1"+s)
		checkText(t, s+"\x00")
		checkText(t, s+"\xf6")
		checkText(t, "\x00"+s)
	}
}

// No node's bytes begin another one's.
func TestDecodeOfWhatFollowsOrIsMissing(t *testing.T) {
	for _, n := range samples() {
		text := textOf(n)
		for _, more := range []string{"\x00", "\xf6", "\x60", "\x80", "\xff", " ", "\n", text} {
			checkNotDecoded(t, text+more)
		}
		if len(text) > 600 {
			continue
		}
		for i := range len(text) {
			checkNotDecoded(t, text[:i])
			checkText(t, text[i+1:])
		}
		for _, other := range samples()[:40] {
			checkNotDecoded(t, text+textOf(other))
		}
	}
}

func TestDecodeOfChangedStrings(t *testing.T) {
	for _, n := range samples() {
		text := textOf(n)
		if len(text) > 60 {
			continue
		}
		for i := range len(text) + 1 {
			for c := range 256 {
				// In longer ones, only some bytes.
				if len(text) > 12 && c%32 > 1 && c%32 < 23 && c < 0xf0 {
					continue
				}
				s := string([]byte{byte(c)})
				checkText(t, text[:i]+s+text[i:])
				if i < len(text) {
					checkText(t, text[:i]+s+text[i+1:])
				}
			}
			if i < len(text) {
				checkText(t, text[:i]+text[i+1:])
			}
		}
	}
}

func TestNesting(t *testing.T) {
	for _, kinds := range [][]int{{api.NodeList}, {api.NodeMap}, {api.NodeList, api.NodeMap}, {api.NodeMap, api.NodeMap, api.NodeList}} {
		for _, n := range []api.Node{null, node.Number(1), node.Text("\x18"), list(), mapOf()} {
			for levels := range 12 {
				deep := nested(n, levels, kinds...)
				for _, whole := range []api.Node{deep, list(null, deep), list(deep, list()), node.Map([]string{"a", "b"}, []api.Node{deep, mapOf()})} {
					if node.Valid(whole) {
						checkEncode(t, whole, textOf(whole))
						checkDecode(t, textOf(whole), whole)
					} else {
						checkNotEncoded(t, whole, api.ErrInvalid)
						checkNotDecoded(t, textOf(whole))
					}
				}
			}
		}
	}
	for levels := range 20 {
		for _, end := range []string{"\x00", "\x80", "\xa0", "\x60", "\xf6"} {
			for _, start := range []string{"\x81", "\xa1\x60", "\xa1\x61a"} {
				if ok := checkText(t, strings.Repeat(start, levels)+end); ok != (levels < api.MaxDepth) {
					t.Errorf("Decode takes %d levels of %x: %t", levels, start, ok)
				}
			}
		}
	}
	for _, s := range []string{"\x81", "\x82", "\xa1", "\xa1\x60", "\xa2\x60", "\x9b\xff\xff\xff\xff\xff\xff\xff\xff", "\xbb\xff\xff\xff\xff\xff\xff\xff\xff\x60"} {
		for _, bytes := range []int{50, 1000, api.MaxBytes, api.MaxBytes + 1, 1 << 20} {
			long := strings.Repeat(s, bytes/len(s))
			checkNotDecoded(t, long)
			checkNotDecoded(t, long+"\x00")
			checkNotDecoded(t, long+"\x80")
		}
	}
}

func TestNumbersOfItems(t *testing.T) {
	for _, count := range []int{0, 1, 2, 23, 24, api.MaxItems - 1, api.MaxItems, api.MaxItems + 1, api.MaxItems + 2, 2 * api.MaxItems, 3000} {
		items := make([]api.Node, count)
		for _, n := range []api.Node{list(items...), node.Map(namesOf(count), items), list(list(items...)), only("a", node.Map(namesOf(count), items))} {
			text := textOf(n)
			if count <= api.MaxItems {
				checkEncode(t, n, text)
				checkDecode(t, text, n)
			} else {
				checkNotEncoded(t, n, api.ErrInvalid)
				checkNotDecoded(t, text)
			}
		}
		// One item less or more than the head says.
		for _, said := range []int{count + 1, max(count-1, 0)} {
			if said == count {
				continue
			}
			checkNotDecoded(t, headText(4, uint64(said))+strings.Repeat("\xf6", count))
			checkNotDecoded(t, headText(5, uint64(said))+textOf(node.Map(namesOf(count), items))[len(headText(5, uint64(count))):])
		}
	}
	checkNotDecoded(t, headText(4, api.MaxBytes-3)+strings.Repeat("\xf6", api.MaxBytes-3))
}

func TestDecodeOfLongStrings(t *testing.T) {
	for _, s := range []string{"\x00", "\x60", "\x61", "\x61a", "\x80", "\xa0", "\xa1\x60", "\xf6", "\xff", "x", "\x18", "\x1b"} {
		for _, count := range []int{api.MaxBytes - 5, api.MaxBytes, api.MaxBytes + 1, 1 << 20} {
			long := strings.Repeat(s, count/len(s)+1)
			for _, start := range []string{"", "\x81", "\xa1\x60", headText(4, uint64(count/len(s)+1)), headText(4, 256), headText(5, uint64(count/len(s)+1)), headText(5, 256)} {
				checkNotDecoded(t, start+long)
			}
		}
	}
}

// Rule 1 and consequences

// withRoom returns n with more memory behind the items and the names, and a
// function that tells whether all is as it was.
func withRoom(n api.Node) (api.Node, func() bool) {
	beyond := node.Text("beyond")
	n.Names = append(slices.Clone(n.Names), "beyond", "farther")[:len(n.Names)]
	n.Items = append(slices.Clone(n.Items), beyond, beyond)[:len(n.Items)]
	before := node.Map(n.Names[:len(n.Names)+2], n.Items[:len(n.Items)+2])
	return n, func() bool {
		return node.Same(node.Map(n.Names[:len(n.Names)+2], n.Items[:len(n.Items)+2]), before)
	}
}

func TestEncodeLeavesItsArgument(t *testing.T) {
	for _, n := range append(samples(), broken()...) {
		given, asItWas := withRoom(n)
		Encode(given)
		if !asItWas() {
			t.Errorf("Encode changes a node of kind %d with %d items", n.Kind, len(n.Items))
		}
	}
}

// spoil writes into all memory that n has, also beyond the lengths.
func spoil(n api.Node) {
	for i := range n.Names[:cap(n.Names)] {
		n.Names[:cap(n.Names)][i] = "spoilt"
	}
	for i := range n.Items[:cap(n.Items)] {
		spoil(n.Items[:cap(n.Items)][i])
		n.Items[:cap(n.Items)][i] = node.Text("spoilt")
	}
}

func TestResultsShareNoMemory(t *testing.T) {
	for _, n := range samples() {
		text := textOf(n)
		first, _ := Decode(text)
		second, _ := Decode(text)
		spoil(first)
		if !node.Same(second, n) || text != textOf(n) {
			t.Errorf("results of Decode(%.40x) share memory", text)
		}
		for i := range second.Items {
			// Each item has memory of its own.
			spoil(second.Items[i])
			for j := i + 1; j < len(second.Items); j++ {
				if !node.Same(second.Items[j], n.Items[j]) {
					t.Errorf("items of Decode(%.40x) share memory", text)
				}
			}
		}
		checkDecode(t, text, n)
	}
}

func TestDifferentNodesHaveDifferentBytes(t *testing.T) {
	texts := map[string]api.Node{}
	for _, n := range samples() {
		text, e := Encode(n)
		if e != api.OK {
			t.Fatal("Encode:", e)
		}
		if other, ok := texts[text]; ok && !node.Same(n, other) {
			t.Errorf("two nodes have the bytes %.40x", text)
		}
		texts[text] = n
	}
	for text, n := range texts {
		checkDecode(t, text, n)
	}
	if len(texts) < 100 {
		t.Error("nodes:", len(texts))
	}
}

// source gives numbers and texts from bytes, and zeros behind their end.
type source struct{ rest []byte }

func (s *source) next(most int) int {
	if len(s.rest) == 0 {
		return 0
	}
	n := int(s.rest[0]) % most
	s.rest = s.rest[1:]
	return n
}

func (s *source) text() string {
	n := min(s.next(30), len(s.rest))
	text := string(s.rest[:n])
	s.rest = s.rest[n:]
	if s.next(8) > 0 {
		return strings.ToValidUTF8(text, "\u00e9")
	}
	return text
}

func (s *source) node(levels int) api.Node {
	n := api.Node{Kind: s.next(api.NodeMap + 1)}
	switch n.Kind {
	case api.NodeBool:
		n.Bool = s.next(2) == 1
	case api.NodeNumber:
		n.Number = (s.next(256) - 128) << s.next(64)
	case api.NodeText:
		n.Text = s.text()
	}
	if n.Kind < api.NodeList || levels == 0 {
		return n
	}
	for range s.next(5) {
		if n.Kind == api.NodeMap {
			n.Names = append(n.Names, s.text())
		}
		n.Items = append(n.Items, s.node(levels-1))
	}
	return n
}

// checkNode checks both directions on any node, and that it is valid exactly if
// it has bytes.
func checkNode(t *testing.T, n api.Node) bool {
	t.Helper()
	if !node.Valid(n) {
		checkNotEncoded(t, n, api.ErrInvalid)
		return false
	}
	text := textOf(n)
	if len(text) > api.MaxBytes {
		checkNotEncoded(t, n, api.ErrLimit)
		return false
	}
	checkEncode(t, n, text)
	checkDecode(t, text, n)
	return checkText(t, text)
}

func TestNodesOfManyBytes(t *testing.T) {
	seed := uint32(1)
	found := 0
	for range 20000 {
		b := make([]byte, 200)
		for i := range b {
			seed = seed*1664525 + 1013904223
			b[i] = byte(seed >> 24)
		}
		if n := (&source{b}).node(8); checkNode(t, n) && len(n.Items) > 2 {
			found++
		}
		checkText(t, string(b[:seed>>16%20]))
	}
	if found < 1000 {
		t.Error("valid nodes with items:", found)
	}
}

// FuzzAll looks for strings, nodes and numbers that break a promise.
func FuzzAll(f *testing.F) {
	for i, n := range samples() {
		f.Add(textOf(n), i%8, uint64(i))
	}
	for _, digits := range refused() {
		f.Add(unhex(digits), 8, uint64(math.MaxUint64))
	}
	f.Fuzz(func(t *testing.T, s string, major int, number uint64) {
		if len(s) > 1<<12 {
			return
		}
		checkText(t, s)
		checkNode(t, (&source{[]byte(s)}).node(8))
		if utf8.ValidString(s) {
			checkNode(t, node.Text(s))
		}
		if major >= 0 && major < 8 {
			checkHead(t, major, number, headText(major, number))
		} else {
			checkNoHead(t, major, number)
		}
	})
}
