package json

import (
	stdlib "encoding/json"
	"fmt"
	"math"
	"slices"
	"strconv"
	"strings"
	"testing"
	"unicode/utf8"

	"keyevent/api"
	"keyevent/node"
)

var (
	null  = api.Node{}
	right = api.Node{Kind: api.NodeBool, Bool: true}
	wrong = api.Node{Kind: api.NodeBool}
)

func list(items ...api.Node) api.Node { return node.List(items) }

// mapOf returns the map of names and numbers, each its place.
func mapOf(names ...string) api.Node {
	var items []api.Node
	for i := range names {
		items = append(items, node.Number(i))
	}
	return node.Map(names, items)
}

// only returns the map of one item.
func only(name string, item api.Node) api.Node {
	return node.Map([]string{name}, []api.Node{item})
}

// namesOf returns so many names, all different.
func namesOf(count int) []string {
	var l []string
	for i := range count {
		l = append(l, "n"+strconv.Itoa(i))
	}
	return l
}

// nested returns n within so many lists, maps, or both in turns.
func nested(n api.Node, levels int, kinds ...int) api.Node {
	for i := range levels {
		if kinds[i%len(kinds)] == api.NodeMap {
			n = only("in", n)
		} else {
			n = list(n)
		}
	}
	return n
}

// bytesOf returns so many plain characters.
func bytesOf(count int) string { return strings.Repeat("x", count) }

// quotedText is the definition of a quoted text.
func quotedText(s string) string {
	var text strings.Builder
	for _, r := range s {
		switch r {
		case '"', '\\':
			text.WriteString("\\" + string(r))
		case 8:
			text.WriteString("\\b")
		case 9:
			text.WriteString("\\t")
		case 10:
			text.WriteString("\\n")
		case 12:
			text.WriteString("\\f")
		case 13:
			text.WriteString("\\r")
		default:
			if r < 32 {
				fmt.Fprintf(&text, "\\u%04x", r)
			} else {
				text.WriteRune(r)
			}
		}
	}
	return "\"" + text.String() + "\""
}

// textOf is the definition of the text of a valid node.
func textOf(n api.Node) string {
	var parts []string
	switch n.Kind {
	case api.NodeNull:
		return "null"
	case api.NodeBool:
		return fmt.Sprint(n.Bool)
	case api.NodeNumber:
		return fmt.Sprint(n.Number)
	case api.NodeText:
		return quotedText(n.Text)
	case api.NodeList:
		for _, item := range n.Items {
			parts = append(parts, textOf(item))
		}
		return "[" + strings.Join(parts, ",") + "]"
	}
	for i, item := range n.Items {
		parts = append(parts, quotedText(n.Names[i])+":"+textOf(item))
	}
	return "{" + strings.Join(parts, ",") + "}"
}

// read returns a node that the library reads.
func read(d *stdlib.Decoder) (api.Node, bool) {
	token, err := d.Token()
	if err != nil {
		return null, false
	}
	switch x := token.(type) {
	case bool:
		return api.Node{Kind: api.NodeBool, Bool: x}, true
	case string:
		return node.Text(x), true
	case stdlib.Number:
		number, err := strconv.Atoi(string(x))
		return node.Number(number), err == nil
	case stdlib.Delim:
		return readItems(d, x)
	}
	return null, token == nil
}

func readItems(d *stdlib.Decoder, bracket stdlib.Delim) (api.Node, bool) {
	n := api.Node{Kind: api.NodeList}
	if bracket == '{' {
		n.Kind = api.NodeMap
	}
	for d.More() {
		if n.Kind == api.NodeMap {
			name, _ := d.Token()
			text, ok := name.(string)
			if !ok {
				return null, false
			}
			n.Names = append(n.Names, text)
		}
		item, ok := read(d)
		if !ok {
			return null, false
		}
		n.Items = append(n.Items, item)
	}
	_, err := d.Token()
	return n, err == nil
}

// nodeOf returns the valid node whose text is s, and whether there is one,
// without the package.
func nodeOf(s string) (api.Node, bool) {
	d := stdlib.NewDecoder(strings.NewReader(s))
	d.UseNumber()
	n, ok := read(d)
	if !ok || !node.Valid(n) || len(s) > api.MaxBytes || textOf(n) != s {
		return null, false
	}
	return n, true
}

// odd are texts with characters that stand for themselves and others that do
// not.
func odd() []string {
	return []string{
		"", "a", "A", " ", "a b", "/", "'", "\"", "\\", "\"\"", "\\\\", "\\\"", "\"\\", "\\n", "\\u0000", "u0000", "\x00", "\x01\x1f", "\x7f",
		"\x7f\x20\x21",
		"\b\t\n\v\f\r", "a\nb", "\n\n", "\u0080", "\u00e9", "e\u0301", "\u2028\u2029", "\ufeff", "\ufffd", "\ufffe\uffff", "\ud7ff\ue000",
		"\U0001f600", "\U0010ffff",
		"null", "true", "-1", "[]", "{}", "{\"a\":1}", ",", ":", "[", "]", "{", "}", "<>&", "\x1b[0m", strings.Repeat("\x00", 40), strings.Repeat("\\", 41),
	}
}

// notUTF8 are strings that are no valid UTF-8.
func notUTF8() []string {
	return []string{
		"\x80", "\xbf", "\xc3", "\xc0\x80", "\xe2\x82", "\xed\xa0\x80", "\xed\xbf\xbf", "\xf0\x9f\x98", "\xf4\x90\x80\x80",
		"\xf8\x88\x80\x80\x80", "\xff", "\xfe",
		"a\xff", "\xffa", "\"\xff", "\xff\"", "\n\xff", "\u00e9\xa9", bytesOf(api.MaxBytes) + "\xff", "\xff" + bytesOf(api.MaxBytes),
	}
}

// numbers are numbers of all lengths.
func numbers() []int {
	l := []int{0, math.MaxInt, math.MaxInt - 1, math.MinInt, math.MinInt + 1, math.MaxInt32, math.MinInt32, api.MaxNumber, api.MaxNumber + 1, 1 << 53, 1<<53 + 1}
	for power := 1; power < math.MaxInt/10; power *= 10 {
		l = append(l, power-1, power, power+1, -power+1, -power, -power-1, 7*power)
	}
	return l
}

// samples are valid nodes of each kind, and lists and maps within one another.
func samples() []api.Node {
	l := []api.Node{null, wrong, right, list(), node.Map(nil, nil)}
	for _, number := range numbers() {
		l = append(l, node.Number(number))
	}
	for _, s := range odd() {
		l = append(l, node.Text(s), only(s, null))
	}
	inner := node.Map([]string{"", "b", "a"}, []api.Node{list(), mapOf(), list(null, wrong, right, node.Number(-1), node.Text("x"))})
	l = append(l,
		list(null), list(null, null), list(wrong, right, null), list(node.Number(1), node.Number(-2), node.Number(30)), list(node.Text("a"), node.Text("")),
		list(list()), list(list(), list()), list(list(list()), list()), list(mapOf(), mapOf()), only("a", mapOf()), only("a", list()),
		only("", only("", mapOf())),
		mapOf("a"), mapOf("a", "b"), mapOf("b", "a"), mapOf("a", "A", "aa", ""), node.Texts(odd()), node.Map(odd(), node.Texts(odd()).Items),
		inner, list(inner, inner), only("x", inner), node.Map([]string{"a", "b", "c"}, []api.Node{inner, node.Number(0), inner}),
		nested(null, api.MaxDepth-1, api.NodeList), nested(node.Text("\""), api.MaxDepth-1, api.NodeMap),
		nested(mapOf(), api.MaxDepth-1, api.NodeList, api.NodeMap),
		mapOf(namesOf(api.MaxItems)...), node.Texts(namesOf(api.MaxItems)), list(make([]api.Node, api.MaxItems)...),
	)
	return l
}

// broken are nodes that are not valid.
func broken() []api.Node {
	one := []api.Node{null}
	l := []api.Node{
		{Kind: 6}, {Kind: -1}, {Kind: math.MaxInt}, {Kind: math.MinInt}, {Bool: true}, {Number: 1}, {Text: "x"}, {Items: one}, {Names: []string{"a"}},
		{Kind: api.NodeBool, Number: 1}, {Kind: api.NodeNumber, Bool: true}, {Kind: api.NodeNumber, Text: "x"}, {Kind: api.NodeText, Number: 1},
		{Kind: api.NodeText, Items: one},
		{Kind: api.NodeList, Text: "x"}, {Kind: api.NodeList, Names: []string{"a"}, Items: one}, {Kind: api.NodeMap, Bool: true},
		list(make([]api.Node, api.MaxItems+1)...), mapOf(namesOf(api.MaxItems + 1)...),
		mapOf("a", "a"), mapOf("a", "b", "a"), mapOf("", ""), node.Map([]string{"a", "b"}, one), node.Map([]string{"a"}, make([]api.Node, 2)),
		node.Map(nil, one), node.Map([]string{"a"}, nil),
		node.Text(bytesOf(api.MaxBytes + 1)), only(bytesOf(api.MaxBytes+1), null),
		nested(null, api.MaxDepth, api.NodeList), nested(null, api.MaxDepth, api.NodeMap),
		nested(list(), api.MaxDepth, api.NodeMap, api.NodeList), nested(null, 1000, api.NodeList),
	}
	for _, s := range notUTF8() {
		l = append(l, node.Text(s), only(s, null))
	}
	return l
}

func checkQuote(t *testing.T, s, want string) {
	t.Helper()
	if got, e := Quote(s); e != api.OK || got != want {
		t.Errorf("Quote(%.40q): %.60s, %d; want %.60s", s, got, e, want)
	}
}

func checkNotQuoted(t *testing.T, s string) {
	t.Helper()
	if got, e := Quote(s); e != api.ErrForm || got != "" {
		t.Errorf("Quote(%.40q): %.60q, %d; want %d alone", s, got, e, api.ErrForm)
	}
}

func checkEncode(t *testing.T, n api.Node, want string) {
	t.Helper()
	if got, e := Encode(n); e != api.OK || got != want {
		t.Errorf("Encode: %d bytes %.60q, %d; want %d bytes %.60q", len(got), got, e, len(want), want)
	}
}

func checkNotEncoded(t *testing.T, n api.Node, want api.Errno) {
	t.Helper()
	if got, e := Encode(n); e != want || got != "" {
		t.Errorf("Encode of kind %d, text %.16q, %d items: %d bytes, %d; want %d alone", n.Kind, n.Text, len(n.Items), len(got), e, want)
	}
}

func checkDecode(t *testing.T, s string, want api.Node) {
	t.Helper()
	if got, e := Decode(s); e != api.OK || !node.Same(got, want) || !node.Valid(got) {
		t.Errorf("Decode(%.60q) of %d bytes: kind %d, number %d, text %.16q, %d items, %d", s, len(s), got.Kind, got.Number, got.Text, len(got.Items), e)
	}
}

func checkNotDecoded(t *testing.T, s string) {
	t.Helper()
	if got, e := Decode(s); e != api.ErrForm || !node.Same(got, null) {
		t.Errorf("Decode(%.60q) of %d bytes: kind %d, %d items, %d; want %d alone", s, len(s), got.Kind, len(got.Items), e, api.ErrForm)
	}
}

// checkText checks Decode on any string, against the library.
func checkText(t *testing.T, s string) bool {
	t.Helper()
	want, ok := nodeOf(s)
	if ok {
		checkDecode(t, s, want)
	} else {
		checkNotDecoded(t, s)
	}
	return ok
}

// P6.1: Quote

func TestQuoteOfEachByte(t *testing.T) {
	want := map[int]string{
		0: `\u0000`, 1: `\u0001`, 2: `\u0002`, 3: `\u0003`, 4: `\u0004`, 5: `\u0005`, 6: `\u0006`, 7: `\u0007`,
		8: `\b`, 9: `\t`, 10: `\n`, 11: `\u000b`, 12: `\f`, 13: `\r`, 14: `\u000e`, 15: `\u000f`,
		16: `\u0010`, 17: `\u0011`, 18: `\u0012`, 19: `\u0013`, 20: `\u0014`, 21: `\u0015`, 22: `\u0016`, 23: `\u0017`,
		24: `\u0018`, 25: `\u0019`, 26: `\u001a`, 27: `\u001b`, 28: `\u001c`, 29: `\u001d`, 30: `\u001e`, 31: `\u001f`,
		34: `\"`, 92: `\\`,
	}
	for c := range 256 {
		s := string([]byte{byte(c)})
		written, ok := want[c]
		if !ok {
			written = s
		}
		if c >= 128 {
			checkNotQuoted(t, s)
			checkNotQuoted(t, "a"+s+"b")
			continue
		}
		checkQuote(t, s, `"`+written+`"`)
		checkQuote(t, "a"+s+"b", `"a`+written+`b"`)
		checkQuote(t, s+s, `"`+written+written+`"`)
		checkEncode(t, node.Text(s), `"`+written+`"`)
		checkEncode(t, only(s, null), `{"`+written+`":null}`)
		checkDecode(t, `"`+written+`"`, node.Text(s))
		checkDecode(t, `{"`+written+`":null}`, only(s, null))
		// There is no other way to write it.
		for _, other := range []string{s, `\` + s, fmt.Sprintf(`\u%04x`, c), fmt.Sprintf(`\u%04X`, c), fmt.Sprintf(`\x%02x`, c), fmt.Sprintf(`\%03o`, c)} {
			if n, e := Decode(`"` + other + `"`); e == api.OK && n.Text == s && other != written {
				t.Errorf("Decode(%q) is the text of %q", other, s)
			}
		}
	}
}

func TestQuoteOfEachRune(t *testing.T) {
	var text []rune
	for r := rune(0); r <= utf8.MaxRune; r++ {
		if utf8.ValidRune(r) {
			text = append(text, r)
		}
		if len(text) == 5000 || r == utf8.MaxRune {
			checkQuote(t, string(text), quotedText(string(text)))
			text = nil
		}
	}
}

func TestQuote(t *testing.T) {
	checkQuote(t, "", `""`)
	checkQuote(t, "a", `"a"`)
	checkQuote(t, `say "hi"\`+"\n\x00\x1f\x7f/\u00e9\u2028", `"say \"hi\"\\\n\u0000\u001f`+"\x7f/\u00e9\u2028"+`"`)
	for _, s := range odd() {
		checkQuote(t, s, quotedText(s))
		text, _ := Quote(s)
		var back string
		if err := stdlib.Unmarshal([]byte(text), &back); err != nil || back != s {
			t.Errorf("Quote(%q): the library reads %q, %v", s, back, err)
		}
	}
}

// A text may be of any length.
func TestQuoteOfLongTexts(t *testing.T) {
	for _, count := range []int{api.MaxBytes - 2, api.MaxBytes - 1, api.MaxBytes, api.MaxBytes + 1, 1 << 20} {
		checkQuote(t, bytesOf(count), `"`+bytesOf(count)+`"`)
		checkQuote(t, strings.Repeat("\x01", count), `"`+strings.Repeat(`\u0001`, count)+`"`)
	}
}

func TestQuoteOfWhatIsNoUTF8(t *testing.T) {
	for _, s := range notUTF8() {
		checkNotQuoted(t, s)
		checkNotQuoted(t, "\u20ac"+s+"a")
	}
}

// P6.1: Encode

func TestEncode(t *testing.T) {
	for _, x := range []struct {
		n    api.Node
		text string
	}{
		{null, "null"}, {right, "true"}, {wrong, "false"},
		{node.Number(0), "0"}, {node.Number(7), "7"}, {node.Number(10), "10"}, {node.Number(-1), "-1"}, {node.Number(-120), "-120"},
		{node.Number(math.MaxInt), "9223372036854775807"}, {node.Number(math.MinInt), "-9223372036854775808"},
		{node.Text(""), `""`}, {node.Text("null"), `"null"`}, {node.Text(`a"b\`), `"a\"b\\"`},
		{list(), "[]"}, {mapOf(), "{}"}, {list(null), "[null]"}, {list(list(), mapOf()), "[[],{}]"}, {only("", list()), `{"":[]}`},
		{list(node.Number(1), node.Number(-2), right, node.Text("x")), `[1,-2,true,"x"]`},
		{node.Map([]string{"a", "b"}, []api.Node{node.Number(1), list(null)}), `{"a":1,"b":[null]}`},
		{node.Map([]string{"b", "a", "\n"}, []api.Node{null, mapOf("x", "y"), list(list(wrong), only("z", right))}), `{"b":null,"a":{"x":0,"y":1},"\n":[[false],{"z":true}]}`},
	} {
		checkEncode(t, x.n, x.text)
		checkDecode(t, x.text, x.n)
	}
}

func TestEncodeOfSamples(t *testing.T) {
	for _, n := range samples() {
		text := textOf(n)
		checkEncode(t, n, text)
		if !stdlib.Valid([]byte(text)) {
			t.Errorf("%.60s is not valid", text)
		}
	}
}

// nil and empty lists mean the same.
func TestEncodeOfEmptyLists(t *testing.T) {
	for _, n := range []api.Node{null, right, wrong, node.Number(5), node.Text("a"), list(), mapOf()} {
		empty := n
		empty.Names, empty.Items = make([]string, 0, 2), make([]api.Node, 0, 2)
		checkEncode(t, empty, textOf(n))
	}
}

func TestEncodeOfNodesThatAreNotValid(t *testing.T) {
	for _, n := range broken() {
		checkNotEncoded(t, n, api.ErrInvalid)
		for i := range 3 {
			items := make([]api.Node, 3)
			items[i] = n
			checkNotEncoded(t, list(items...), api.ErrInvalid)
			checkNotEncoded(t, node.Map(namesOf(3), items), api.ErrInvalid)
		}
	}
}

// filled returns nodes whose texts have so many bytes, each in another way.
func filled(count int) []api.Node {
	// What a text within n must have so that n has so many bytes.
	rest := func(n api.Node) string { return bytesOf(count - len(textOf(n))) }
	empty := node.Text("")
	l := []api.Node{
		node.Text(rest(empty)), list(node.Text(rest(list(empty)))), only(rest(only("", null)), null), only("a", node.Text(rest(only("a", empty)))),
		nested(node.Text(rest(nested(empty, api.MaxDepth-1, api.NodeMap))), api.MaxDepth-1, api.NodeMap),
	}
	for _, s := range []string{"\"", "\\", "\n", "\x00", "\u00e9", "\U0001f600"} {
		start := strings.Repeat(s, 5000)
		l = append(l, node.Text(start+rest(node.Text(start))), only(start+rest(only(start, right)), right))
	}
	parts := make([]api.Node, 100)
	for i := range parts {
		parts[i] = node.Text(strings.Repeat("\x02", 100))
	}
	for _, i := range []int{0, 50, 99} {
		some := slices.Clone(parts)
		some[i] = empty
		some[i] = node.Text(rest(list(some...)))
		l = append(l, list(some...))
	}
	// Only brackets and commas, but for one text.
	rows := make([]api.Node, 85)
	for i := range rows {
		rows[i] = list(make([]api.Node, 150)...)
	}
	rows[40] = empty
	rows[40] = node.Text(rest(list(rows...)))
	return append(l, list(rows...))
}

func TestLimitOfTexts(t *testing.T) {
	for _, less := range []int{0, 1, 2, 100} {
		for _, n := range filled(api.MaxBytes - less) {
			text := textOf(n)
			if len(text) != api.MaxBytes-less {
				t.Fatal("bytes:", len(text))
			}
			checkEncode(t, n, text)
			checkDecode(t, text, n)
		}
	}
	for _, more := range []int{1, 2, 100} {
		for _, n := range filled(api.MaxBytes + more) {
			if !node.Valid(n) {
				continue // a text that is too long by itself
			}
			checkNotEncoded(t, n, api.ErrLimit)
			checkNotDecoded(t, textOf(n))
		}
	}
	for _, s := range []string{bytesOf(api.MaxBytes - 1), bytesOf(api.MaxBytes), strings.Repeat("\x00", api.MaxBytes), strings.Repeat("\"", api.MaxBytes/2)} {
		checkNotEncoded(t, node.Text(s), api.ErrLimit)
		checkNotDecoded(t, quotedText(s))
	}
	// The last byte counts, whether it is of an item, a quote or a bracket.
	for _, n := range []api.Node{
		list(null, node.Text(bytesOf(api.MaxBytes-9))), list(node.Text(bytesOf(api.MaxBytes-9)), null), only(bytesOf(api.MaxBytes-9), null),
	} {
		checkEncode(t, n, textOf(n))
		checkNotEncoded(t, list(n), api.ErrLimit)
	}
	for _, n := range []api.Node{
		list(null, node.Text(bytesOf(api.MaxBytes-8))), list(node.Text(bytesOf(api.MaxBytes-8)), null), only(bytesOf(api.MaxBytes-8), null),
	} {
		checkNotEncoded(t, n, api.ErrLimit)
		checkNotDecoded(t, textOf(n))
	}
}

// The whole node is checked before the limit.
func TestEncodeOfLongNodesThatAreNotValid(t *testing.T) {
	long := node.Text(bytesOf(api.MaxBytes))
	checkNotEncoded(t, list(long, long), api.ErrLimit)
	for _, n := range broken() {
		checkNotEncoded(t, list(long, long, n), api.ErrInvalid)
		checkNotEncoded(t, list(n, long, long), api.ErrInvalid)
		checkNotEncoded(t, node.Map([]string{"a", "b"}, []api.Node{long, list(long, n)}), api.ErrInvalid)
	}
}

// A valid node may be far longer than the limit.
func TestEncodeOfVeryLongNodes(t *testing.T) {
	part := node.Text(bytesOf(1 << 12))
	row := make([]api.Node, api.MaxItems)
	for i := range row {
		row[i] = part
	}
	rows := make([]api.Node, api.MaxItems)
	for i := range rows {
		rows[i] = list(row...)
	}
	checkNotEncoded(t, list(rows...), api.ErrLimit)
	checkNotEncoded(t, node.Map(namesOf(api.MaxItems), rows), api.ErrLimit)
}

// P6.2

func TestDecodeOfSamples(t *testing.T) {
	for _, n := range samples() {
		text := textOf(n)
		checkDecode(t, text, n)
		if !checkText(t, text) {
			t.Errorf("the library does not read %.60s", text)
		}
	}
}

func TestNumbers(t *testing.T) {
	for _, number := range numbers() {
		text := fmt.Sprint(number)
		checkEncode(t, node.Number(number), text)
		checkDecode(t, text, node.Number(number))
		checkDecode(t, "["+text+"]", list(node.Number(number)))
		checkDecode(t, `{"a":`+text+`}`, only("a", node.Number(number)))
		for _, other := range []string{"0" + text, "+" + text, "-0" + text, "--" + text, text + ".0", text + "e0", text + " ", " " + text, text + ".", text + "_", "0x" + text, "\"" + text, text + "\""} {
			checkNotDecoded(t, other)
			checkNotDecoded(t, "["+other+"]")
			checkNotDecoded(t, `{"a":`+other+`}`)
		}
	}
	for _, s := range []string{
		"-", "+", "-0", "00", "01", "-01", "000", "1-", "1-1", "- 1", "1 1", "1_0", "1e1", "1E1", ".1", "1.", "1.5", "0x1", "0b1", "0o1",
		"Infinity", "-Infinity", "NaN", "inf", "a1", "1a", "\u0661",
		"9223372036854775808", "-9223372036854775809", "9999999999999999999", "18446744073709551616", "18446744073709551617",
		"-18446744073709551615", "1" + strings.Repeat("0", 200), strings.Repeat("1", api.MaxBytes), strings.Repeat("0", api.MaxBytes),
		"-" + strings.Repeat("9", 1000),
	} {
		checkNotDecoded(t, s)
		checkNotDecoded(t, "["+s+"]")
		checkNotDecoded(t, `{"a":`+s+`}`)
	}
}

// refused are strings that are no node's text.
func refused() []string {
	return []string{
		"", " ", "\n", "\x00", "\ufeff", "\xff", "x", ",", ":", "'", "\\",
		// words
		"n", "nul", "nulll", "NULL", "Null", "tru", "truex", "TRUE", "True", "fals", "falsee", "False", "t", "f", "undefined", "nan", "nulltrue",
		"null,null", "nullnull", "null:null", "true1", "1true", "nil",
		// spaces
		" null", "null ", "null\n", "\tnull", "\r\nnull", " 1", "1 ", " \"a\"", "\"a\" ", "[ ]", "[ 1]", "[1 ]", "[1, 2]", "[1 ,2]", " []",
		"[] ", "[]\n", "{ }", "{ \"a\":1}", "{\"a\" :1}", "{\"a\": 1}", "{\"a\":1 }", "{\"a\":1, \"b\":2}", "{\"a\":1 ,\"b\":2}", "\ufeffnull",
		"\u00a0null", "[\n]",
		// texts
		"\"", "\"a", "a\"", "a", "\"\"\"", "\"a\"b", "\"a\"\"b\"", "\"a\\\"", "\"\\", "\"\\\"", "'a'", "`a`", "\"a'", "\"\n\"", "\"\t\"",
		"\"\x00\"", "\"\x1f\"", "\"a\nb\"",
		"\"\xff\"", "\"\xc3\"", "\"\xed\xa0\x80\"", "\"\xc0\xaf\"", "\"a\x80b\"", "\"\xc3\"\xa9\"", "\"\xf4\x90\x80\x80\"",
		// escapes
		`"\/"`, `"\'"`, `"\a"`, `"\v"`, `"\0"`, `"\e"`, `"\B"`, `"\N"`, `"\x"`, `"\x41"`, `"\u"`, `"\u0"`, `"\u00"`, `"\u000"`, `"\u00`, `"\u0`,
		`"\u`, `"\u0000`, `"\u00000`, `"\`, `"\ n"`, `"\U0000"`, `"\U00000041"`, `"\u{0}"`,
		`"\u0008"`, `"\u0009"`, `"\u000a"`, `"\u000c"`, `"\u000d"`, `"\u0022"`, `"\u005c"`, `"\u0020"`, `"\u002f"`, `"\u0041"`, `"\u007f"`,
		`"\u0080"`, `"\u00e9"`, `"\u00c3\u00a9"`, `"\u00ff"`,
		`"\u000B"`, `"\u000A"`, `"\u001F"`, `"\u001A"`, `"\u000g"`, `"\u00-1"`, `"\u00+1"`, `"\u00 1"`, `"\u00_1"`, `"\u00x1"`, `"\u0x01"`,
		`"\u0100"`, `"\u1000"`, `"\u2028"`, `"\ud83d\ude00"`, `"\ud800"`, `"\uFFFF"`, `"\u0001\u001F"`, `"\u00\"`, `"\u0\"0"`, `"\"`,
		// lists
		"[", "]", "[[", "[]]", "[[]", "][", "[,", "[,]", "[1,]", "[,1]", "[1,,2]", "[1", "[1,", "[1,2", "[1}", "{1]", "[1]]", "[1]1", "[1][1]",
		"[],[]", "[1;2]", "[1:2]", "[\"a\":1]", "[1]null", "null[1]", "[nul]", "[nullx]", "[null,nul]", "[[1]", "[[1],", "[[1]2]",
		"[\"a\"\"b\"]", "[1\"b\"]", "[\"b\"1]", "[[][]]", "[{}{}]", "(1)", "[]\x00",
		// maps
		"{", "}", "{}}", "{{}", "{,}", "{\"", "{\"a", "{\"a\"", "{\"a\":", "{\"a\":1", "{\"a\":1,", "{\"a\":1,}", "{,\"a\":1}", "{\"a\":1]",
		"[\"a\":1}", "{\"a\"}", "{\"a\",\"b\"}", "{\"a\":}", "{:1}", "{:}", "{\"a\"1}", "{\"a\"=1}", "{\"a\"::1}", "{a:1}", "{'a':1}", "{1:1}",
		"{null:1}", "{true:1}", "{[]:1}", "{{}:1}", "{null}", "{1}", "{[]}", "{{}}", "{\"a\":1\"b\":2}", "{\"a\":1,\"b\"}", "{\"a\":1,\"b\":}",
		"{\"a\":1,,\"b\":2}", "{\"a\":1}{}", "{\"a\":1}1", "{\"a\":1,2}", "{\"a\":1,\"b\":2", "{\"a\":{\"b\":1}", "{\"a\":nul}", "{\"a\":1:2}",
		"{\"\\u0061\":1}", "{\"\xff\":1}", "{\"a\":\"\xff\"}", "{}\n",
		// names that occur twice
		`{"a":1,"a":1}`, `{"a":1,"a":2}`, `{"a":1,"b":2,"a":3}`, `{"":null,"":null}`, `{"a":[],"a":{}}`, `{"\n":1,"\n":1}`, `{"a":1,"\u0061":1}`,
		`[{"a":1,"a":1}]`, `{"x":{"a":1,"a":1}}`, `{"a":{"a":1},"a":1}`,
		// comments
		"null//", "/**/null", "[1/**/]", "#\nnull",
	}
}

func TestDecodeOfWhatIsNoText(t *testing.T) {
	for _, s := range refused() {
		if checkText(t, s) {
			t.Errorf("the library reads %q", s)
		}
		for _, around := range []string{"[" + s + "1", "[1," + s + ";]", `{"a":` + s + `!}`, s + "\x00", "\x00" + s} {
			checkNotDecoded(t, around)
		}
	}
}

// Nor is what has the text of a node within it, and nothing else.
func TestDecodeOfWhatFollowsOrIsMissing(t *testing.T) {
	for _, n := range samples() {
		text := textOf(n)
		if len(text) > 300 {
			continue
		}
		for _, other := range samples()[:40] {
			checkText(t, text+textOf(other))
			checkText(t, text+","+textOf(other))
		}
		for i := range len(text) {
			// A number that is cut off is another number.
			if checkText(t, text[:i]) && n.Kind != api.NodeNumber {
				t.Errorf("Decode takes %q of %q", text[:i], text)
			}
			checkText(t, text[i+1:])
		}
	}
}

func TestDecodeOfChangedTexts(t *testing.T) {
	for _, n := range samples() {
		text := textOf(n)
		if len(text) > 100 {
			continue
		}
		for i := range len(text) + 1 {
			for _, s := range []string{"", "\"", "\\", ",", ":", "[", "]", "{", "}", "0", "1", "-", " ", "a", "n", "u", "\x00", "\x1f", "\x7f", "\xff", "\u00e9"} {
				checkText(t, text[:i]+s+text[i:])
				if i < len(text) {
					checkText(t, text[:i]+s+text[i+1:])
				}
			}
		}
	}
}

// TestDecodeOfShortTexts goes through all strings of some characters.
func TestDecodeOfShortTexts(t *testing.T) {
	found := 0
	for _, x := range []struct {
		characters string
		most       int
	}{{"[]{},:\"\\01-a", 4}, {"[],\"0-", 6}, {"{}:,\"1", 7}, {"\"\\u0nf", 7}} {
		texts := []string{""}
		for range x.most {
			var longer []string
			for _, s := range texts {
				for _, c := range x.characters {
					longer = append(longer, s+string(c))
				}
			}
			for _, s := range longer {
				if checkText(t, s) {
					found++
				}
			}
			texts = longer
		}
	}
	if found < 500 {
		t.Error("texts of nodes:", found)
	}
}

func TestNesting(t *testing.T) {
	for _, kinds := range [][]int{{api.NodeList}, {api.NodeMap}, {api.NodeList, api.NodeMap}, {api.NodeMap, api.NodeMap, api.NodeList}} {
		for _, n := range []api.Node{null, node.Number(1), node.Text("[["), list(), mapOf()} {
			for levels := range 12 {
				deep := nested(n, levels, kinds...)
				for _, whole := range []api.Node{deep, list(null, deep), list(deep, list()), node.Map([]string{"a", "b"}, []api.Node{deep, mapOf()})} {
					if node.Valid(whole) {
						checkEncode(t, whole, textOf(whole))
						checkDecode(t, textOf(whole), whole)
					} else {
						checkNotEncoded(t, whole, api.ErrInvalid)
						checkNotDecoded(t, textOf(whole))
					}
				}
			}
		}
	}
	if s := strings.Repeat("[", api.MaxDepth) + strings.Repeat("]", api.MaxDepth); !checkText(t, s) {
		t.Error("the library does not read", s)
	}
	for _, count := range []int{api.MaxDepth + 1, 1000, api.MaxBytes / 2, api.MaxBytes, 1 << 20} {
		checkNotDecoded(t, strings.Repeat("[", count))
		checkNotDecoded(t, strings.Repeat("[", count)+strings.Repeat("]", count))
		checkNotDecoded(t, strings.Repeat("{\"\":", count))
		checkNotDecoded(t, strings.Repeat("{\"\":", count)+"1"+strings.Repeat("}", count))
		checkNotDecoded(t, strings.Repeat("]", count))
	}
}

func TestNumbersOfItems(t *testing.T) {
	for _, count := range []int{0, 1, 2, api.MaxItems - 1, api.MaxItems, api.MaxItems + 1, api.MaxItems + 2, 2 * api.MaxItems, 3000} {
		items := make([]api.Node, count)
		for _, n := range []api.Node{list(items...), node.Map(namesOf(count), items), list(list(items...)), only("a", node.Map(namesOf(count), items))} {
			if count <= api.MaxItems {
				checkEncode(t, n, textOf(n))
				checkDecode(t, textOf(n), n)
			} else {
				checkNotEncoded(t, n, api.ErrInvalid)
				checkNotDecoded(t, textOf(n))
			}
		}
	}
	checkNotDecoded(t, "["+strings.Repeat("1,", api.MaxBytes/2-2)+"1]")
}

func TestDecodeOfLongStrings(t *testing.T) {
	for _, s := range []string{" ", "1", "\"", "\\", "\\\"", "\"a\",", "[", "]", "[]", "[],", "{},", "x", "\x00", "\xff", "null", "null,", "-", ",", ":"} {
		for _, count := range []int{api.MaxBytes, api.MaxBytes + 1, 1 << 20} {
			long := strings.Repeat(s, count/len(s)+1)
			checkNotDecoded(t, long)
			checkNotDecoded(t, "["+long)
			checkNotDecoded(t, "[\""+long)
			checkNotDecoded(t, "[\""+long+"\"]")
		}
	}
}

// Rule 1 and consequences

// withRoom returns n with more memory behind the items and the names, and a
// function that tells whether all is as it was.
func withRoom(n api.Node) (api.Node, func() bool) {
	beyond := node.Text("beyond")
	n.Names = append(slices.Clone(n.Names), "beyond", "farther")[:len(n.Names)]
	n.Items = append(slices.Clone(n.Items), beyond, beyond)[:len(n.Items)]
	before := node.Map(n.Names[:len(n.Names)+2], n.Items[:len(n.Items)+2])
	return n, func() bool {
		return node.Same(node.Map(n.Names[:len(n.Names)+2], n.Items[:len(n.Items)+2]), before)
	}
}

func TestEncodeLeavesItsArgument(t *testing.T) {
	for _, n := range append(samples(), broken()...) {
		given, asItWas := withRoom(n)
		Encode(given)
		if !asItWas() {
			t.Errorf("Encode changes a node of kind %d with %d items", n.Kind, len(n.Items))
		}
	}
}

// spoil writes into all memory that n has, also beyond the lengths.
func spoil(n api.Node) {
	for i := range n.Names[:cap(n.Names)] {
		n.Names[:cap(n.Names)][i] = "spoilt"
	}
	for i := range n.Items[:cap(n.Items)] {
		spoil(n.Items[:cap(n.Items)][i])
		n.Items[:cap(n.Items)][i] = node.Text("spoilt")
	}
}

func TestResultsShareNoMemory(t *testing.T) {
	for _, n := range samples() {
		text := textOf(n)
		first, _ := Decode(text)
		second, _ := Decode(text)
		spoil(first)
		if !node.Same(second, n) || text != textOf(n) {
			t.Errorf("results of Decode(%.60s) share memory", text)
		}
		for i := range second.Items {
			// Each item has memory of its own.
			spoil(second.Items[i])
			for j := i + 1; j < len(second.Items); j++ {
				if !node.Same(second.Items[j], n.Items[j]) {
					t.Errorf("items of Decode(%.60s) share memory", text)
				}
			}
		}
		checkDecode(t, text, n)
	}
}

func TestDifferentNodesHaveDifferentTexts(t *testing.T) {
	texts := map[string]api.Node{}
	for _, n := range samples() {
		text, e := Encode(n)
		if e != api.OK {
			t.Fatal("Encode:", e)
		}
		if other, ok := texts[text]; ok && !node.Same(n, other) {
			t.Errorf("two nodes have the text %.60s", text)
		}
		texts[text] = n
	}
	for text, n := range texts {
		checkDecode(t, text, n)
	}
	if len(texts) < 200 {
		t.Error("texts:", len(texts))
	}
}

// source gives numbers and texts from bytes, and zeros behind their end.
type source struct{ rest []byte }

func (s *source) next(most int) int {
	if len(s.rest) == 0 {
		return 0
	}
	n := int(s.rest[0]) % most
	s.rest = s.rest[1:]
	return n
}

func (s *source) text() string {
	n := min(s.next(6), len(s.rest))
	text := string(s.rest[:n])
	s.rest = s.rest[n:]
	if s.next(8) > 0 {
		return strings.ToValidUTF8(text, "\u00e9")
	}
	return text
}

func (s *source) node(levels int) api.Node {
	n := api.Node{Kind: s.next(api.NodeMap + 1)}
	switch n.Kind {
	case api.NodeBool:
		n.Bool = s.next(2) == 1
	case api.NodeNumber:
		n.Number = (s.next(256) - 128) << s.next(64)
	case api.NodeText:
		n.Text = s.text()
	}
	if n.Kind < api.NodeList || levels == 0 {
		return n
	}
	for range s.next(5) {
		if n.Kind == api.NodeMap {
			n.Names = append(n.Names, s.text())
		}
		n.Items = append(n.Items, s.node(levels-1))
	}
	return n
}

// checkNode checks both directions on any node, and that it is valid exactly if
// it has a text.
func checkNode(t *testing.T, n api.Node) bool {
	t.Helper()
	if !node.Valid(n) {
		checkNotEncoded(t, n, api.ErrInvalid)
		return false
	}
	text := textOf(n)
	if len(text) > api.MaxBytes {
		checkNotEncoded(t, n, api.ErrLimit)
		return false
	}
	checkEncode(t, n, text)
	checkDecode(t, text, n)
	checkText(t, text)
	return true
}

func TestNodesOfManyBytes(t *testing.T) {
	seed := uint32(1)
	found := 0
	for range 20000 {
		b := make([]byte, 200)
		for i := range b {
			seed = seed*1664525 + 1013904223
			b[i] = byte(seed >> 24)
		}
		if n := (&source{b}).node(8); checkNode(t, n) && len(n.Items) > 2 {
			found++
		}
		checkText(t, string(b[:seed>>16%20]))
	}
	if found < 1000 {
		t.Error("valid nodes with items:", found)
	}
}

// FuzzAll looks for strings and nodes that break a promise.
func FuzzAll(f *testing.F) {
	for _, n := range samples() {
		f.Add(textOf(n))
	}
	for _, s := range refused() {
		f.Add(s)
	}
	f.Fuzz(func(t *testing.T, s string) {
		if len(s) > 1<<12 {
			return
		}
		checkText(t, s)
		if utf8.ValidString(s) {
			checkQuote(t, s, quotedText(s))
		} else {
			checkNotQuoted(t, s)
		}
		checkNode(t, (&source{[]byte(s)}).node(8))
	})
}
