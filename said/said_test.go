package said_test

import (
	"crypto/sha256"
	"encoding/base64"
	"fmt"
	"math"
	"regexp"
	"slices"
	"strconv"
	"strings"
	"testing"

	"keyevent/api"
	"keyevent/hash"
	"keyevent/node"
	"keyevent/pack"
	"keyevent/primitive"
	"keyevent/said"
	"keyevent/version"
)

// The definition, as the chapter has it

const dummy = "############################################"

var (
	forms = []int{api.FormJSON, api.FormCBOR, api.FormPack}
	names = map[int]string{api.FormJSON: "JSON", api.FormCBOR: "CBOR", api.FormPack: "MGPK"}

	protocolPattern = regexp.MustCompile(`\A[A-Z]{4}\z`)
	versionPattern  = regexp.MustCompile(`\A([A-Z]{4})([0-9a-f])([0-9a-f])(JSON|CBOR|MGPK)([0-9a-f]{6})_\z`)
)

// digestOf is the definition of a digest, with the library's sum and digits.
func digestOf(s string) string {
	sum := sha256.Sum256([]byte(s))
	return "E" + base64.URLEncoding.EncodeToString(append([]byte{0}, sum[:]...))[1:]
}

func versionText(protocol string, major, minor, form, size int) string {
	return fmt.Sprintf("%s%x%x%s%06x_", protocol, major, minor, names[form], size)
}

// replaced returns the map in which all labels have a text.
func replaced(n api.Node, labels []string, text string) api.Node {
	with := node.Map(n.Names, n.Items)
	for _, label := range labels {
		if i := slices.Index(with.Names, label); i >= 0 {
			with.Items[i] = node.Text(text)
		} else {
			with.Names, with.Items = append(with.Names, label), append(with.Items, node.Text(text))
		}
	}
	return with
}

// fittedOf returns a map with its version in front, and its bytes.
func fittedOf(n api.Node, protocol string, form int) (api.Node, string, api.Errno) {
	build := func(size int) (api.Node, string, api.Errno) {
		fitted := api.Node{Kind: api.NodeMap, Names: []string{"v"}, Items: []api.Node{node.Text(versionText(protocol, 1, 0, form, size))}}
		for i, name := range n.Names {
			if name != "v" {
				fitted.Names, fitted.Items = append(fitted.Names, name), append(fitted.Items, n.Items[i])
			}
		}
		s, e := pack.EncodeAs(form, fitted)
		return fitted, s, e
	}
	_, s, e := build(0)
	if e != api.OK {
		return null, "", e
	}
	return build(len(s))
}

// putOf is the definition of Put.
func putOf(n api.Node, labels []string, protocol string, form int) (api.Node, string, api.Errno) {
	if len(labels) == 0 || slices.Contains(labels, "v") || !protocolPattern.MatchString(protocol) || names[form] == "" {
		return null, "", api.ErrRange
	}
	if n.Kind != api.NodeMap || !node.Valid(n) {
		return null, "", api.ErrInvalid
	}
	_, draft, e := fittedOf(replaced(n, labels, dummy), protocol, form)
	if e != api.OK {
		return null, "", e
	}
	return fittedOf(replaced(n, labels, digestOf(draft)), protocol, form)
}

// firstOf returns the parts of the first version in a string, or nothing.
func firstOf(s string) []string {
	for place := 0; place <= 24 && place+17 <= len(s); place++ {
		if parts := versionPattern.FindStringSubmatch(s[place : place+17]); parts != nil {
			return parts
		}
	}
	return nil
}

// textAt returns the text that a map has at a name, and whether there is one.
func textAt(n api.Node, name string) (string, bool) {
	for i := range n.Items {
		if n.Kind == api.NodeMap && n.Names[i] == name {
			return n.Items[i].Text, n.Items[i].Kind == api.NodeText
		}
	}
	return "", false
}

// checkOf is the definition of Check.
func checkOf(s string, labels []string) (api.Node, string, api.Errno) {
	parts := firstOf(s)
	if parts == nil {
		return null, "", api.ErrVersion
	}
	if size, err := strconv.ParseUint(parts[5], 16, 24); err != nil || int(size) != len(s) {
		return null, "", api.ErrSize
	}
	form := 0
	for number, name := range names {
		if name == parts[4] {
			form = number
		}
	}
	n, e := pack.DecodeAs(form, s)
	if text, ok := textAt(n, "v"); e != api.OK || !ok || text != parts[0] {
		return null, "", api.ErrForm
	}
	for _, label := range labels {
		if _, ok := textAt(n, label); !ok {
			return null, "", api.ErrMissing
		}
	}
	if len(labels) == 0 {
		return null, "", api.ErrMissing
	}
	if _, again, e := putOf(n, labels, parts[1], form); e != api.OK || again != s {
		return null, "", api.ErrSaid
	}
	digest, _ := textAt(n, labels[0])
	return n, digest, api.OK
}

// Nodes and labels

const (
	sample      = "KERI10JSON0000fb_"
	otherDigest = "ELp4Fr-PAc_qQUFA3l2uIiOwA2Gjlhd6nLQQ_2HyABWt"
)

var (
	null = api.Node{}
	yes  = api.Node{Kind: api.NodeBool, Bool: true}
)

func list(items ...api.Node) api.Node { return node.List(items) }

// numbered returns the map of n0, n1 and so on.
func numbered(items ...api.Node) api.Node { return node.Map(numberedNames(len(items)), items) }

func numberedNames(count int) []string {
	l := make([]string, count)
	for i := range l {
		l[i] = fmt.Sprint("n", i)
	}
	return l
}

// named returns the map that has these items; the names are in one string, with
// a comma between them.
func named(names string, items ...api.Node) api.Node {
	return node.Map(strings.Split(names, ","), items)
}

func plain(count int) string { return strings.Repeat("p", count) }

func nulls(count int) []api.Node { return make([]api.Node, count) }

// inMaps returns n within so many maps of one item with this name.
func inMaps(n api.Node, name string, levels int) api.Node {
	for range levels {
		n = named(name, n)
	}
	return n
}

// withItem returns a map with one more item at a place.
func withItem(n api.Node, place int, name string, item api.Node) api.Node {
	return node.Map(slices.Insert(slices.Clone(n.Names), place, name), slices.Insert(slices.Clone(n.Items), place, item))
}

func reversed(l []string) []string {
	l = slices.Clone(l)
	slices.Reverse(l)
	return l
}

func one(label string) []string { return []string{label} }

// values are items of each kind, also such as look like versions and digests.
func values() []api.Node {
	return []api.Node{
		null, {Kind: api.NodeBool}, yes, node.Number(0), node.Number(-7), node.Number(math.MaxInt), node.Text(""), node.Text("x"), node.Text("\u00e9\n\""), node.Text(sample), node.Text("ACDC00CBOR000000_"),
		node.Text(dummy), node.Text(dummy[1:]), node.Text(dummy + "#"), node.Text(otherDigest), node.Text(plain(300)), list(), list(node.Text(dummy), null), numbered(), numbered(yes), named("d", node.Text(dummy)), named("d,i,v", null, list(yes), node.Text(sample)),
	}
}

// maps are valid ones without items v, d and i.
func maps() []api.Node {
	l := []api.Node{
		numbered(), named("", null), named("a", node.Text("x")), named("b,a,", null, yes, list()), named("V,D,I", null, yes, null), named("vv,dd", null, yes), named(" d,d ,di", null, null, yes), named(sample, node.Text(sample)), named("x"+sample, null),
		inMaps(null, "a", 7), named("a", inMaps(null, "d", 6)), numbered(values()...), named("a", named("d,i", null, yes)), named("a,b", list(named("d,b", yes, null)), named("b,i", null, yes)), named(dummy, node.Text(dummy)), named(otherDigest, node.Text(otherDigest)),
		named(plain(1000), node.Text(plain(1000))), named("a", numbered(nulls(api.MaxItems)...)),
	}
	for _, item := range values() {
		l = append(l, named("item", item))
	}
	for _, count := range []int{2, 13, 14, 15, 16, 21, 22, 23, 24, 30, 31, 64, 88, 100, 252, 253} {
		l = append(l, numbered(nulls(count)...))
	}
	return l
}

// labelLists are such as Put takes, if the map has room for two more.
func labelLists() [][]string {
	return [][]string{
		{"d"}, {"i"}, {"d", "i"}, {"i", "d"}, {"d", "d"}, {"i", "d", "i", "d"}, {"d", "i", "d"}, {""}, {"a"}, {"d", "a"}, {"V"}, {"vv", "d"}, {"v "}, {" v"}, {"\u0475"}, {"\x00", "\u00e9"}, {"#"}, {dummy}, {otherDigest, "d"},
		{sample}, {"item", "d"}, {"\"", "\\"}, {plain(1000), "d"}, {"n0", "n1"}, {"n1", "d", "n0"},
	}
}

// broken are nodes that are no valid maps.
func broken() []api.Node {
	l := []api.Node{
		null, yes, {Kind: api.NodeBool}, node.Number(1), node.Text("x"), node.Text(dummy), list(), list(named("d", null)), list(node.Text("d"), node.Text(dummy)),
		{Kind: -1}, {Kind: 6}, {Kind: math.MaxInt}, {Kind: api.NodeList, Names: []string{"d"}, Items: nulls(1)}, {Names: []string{"d"}, Items: nulls(1)},
		{Kind: api.NodeMap, Bool: true}, {Kind: api.NodeMap, Number: 1}, {Kind: api.NodeMap, Text: "t"}, {Kind: 6, Names: []string{"d"}, Items: nulls(1)},
		{Kind: api.NodeMap, Names: []string{"a"}}, {Kind: api.NodeMap, Names: []string{"d"}}, {Kind: api.NodeMap, Items: nulls(1)}, {Kind: api.NodeMap, Names: []string{"a", "d"}, Items: nulls(1)}, {Kind: api.NodeMap, Names: []string{"d"}, Items: nulls(2)},
		named("a,a", null, null), named("d,d", null, null), named("d,a,d", null, null, null), named("v,v", null, null), named("\xff", null), named("d\xff", null), named("a", node.Text("\xff")), named("v", node.Text("\xff")),
		// What stands at a label counts, though it would be replaced.
		named("d", node.Text("\xff")), named("d", api.Node{Kind: 6}), named("d", api.Node{Text: "x"}), named("a,d,i", null, null, api.Node{Number: 1}), named("d", list(nulls(api.MaxItems+1)...)), named("d", node.Text(plain(api.MaxBytes+1))), named("d", named("a,a", null, null)),
		named("a", api.Node{Kind: 6}), named("d,a", node.Text(dummy), api.Node{Number: 1}), named("v,d", api.Node{Kind: 6}, null),
		numbered(nulls(api.MaxItems + 1)...), withItem(numbered(nulls(api.MaxItems)...), 9, "d", null), withItem(numbered(nulls(api.MaxItems)...), 0, "v", null),
		inMaps(null, "a", api.MaxDepth), inMaps(null, "d", api.MaxDepth), inMaps(numbered(), "d", api.MaxDepth), inMaps(null, "d", 500), named("a,d", yes, inMaps(null, "a", api.MaxDepth-1)),
		named("a", node.Text(plain(api.MaxBytes+1))), named(plain(api.MaxBytes+1), null),
	}
	// A map that contains itself is nested too deeply.
	items := nulls(1)
	items[0] = api.Node{Kind: api.NodeMap, Names: []string{"d"}, Items: items}
	return append(l, items[0])
}

// badProtocols and noForms make no valid version.
func badProtocols() []string {
	l := []string{"", "K", "KER", "KERIS", "KERIKERI", "keri", "Keri", "KERi", "K3RI", "KE I", " KER", "KERI ", "KER\n", "KER_", "KER@", "KER[", "KER\x00", "KER\xff", "\xc1\xc1\xc1\xc1", "K\u00c9R", "\u00c9RI", "\u0410\u0411", "KERI10", sample, plain(1 << 20)}
	for _, letter := range "@[`az09_ \x7f" {
		for i := range 4 {
			l = append(l, "KERI"[:i]+string(letter)+"KERI"[i+1:])
		}
	}
	return l
}

func noForms() []int {
	return []int{0, -1, -2, -3, 4, 5, 10, 255, 257, 258, 259, 1<<32 + 1, math.MaxInt, math.MinInt, math.MinInt + 1}
}

// Checks

// expectPut checks Put of what has a result, and what follows from it.
func expectPut(t *testing.T, n api.Node, labels []string, protocol string, form int) {
	t.Helper()
	want, wantText, wantError := putOf(n, labels, protocol, form)
	if wantError != api.OK {
		t.Fatalf("the definition of Put of %d items, %.60q, in %d has error %d", len(n.Items), labels, form, wantError)
	}
	m, text, e := said.Put(n, labels, protocol, form)
	if e != api.OK || text != wantText || !node.Same(m, want) {
		t.Errorf("Put of %d items, %.60q, %q, in %d: %d bytes %.90q, error %d; want %d bytes %.90q", len(n.Items), labels, protocol, form, len(text), text, e, len(wantText), wantText)
		return
	}
	_, draft, _ := fittedOf(replaced(n, labels, dummy), protocol, form)
	if len(text) != len(draft) {
		t.Errorf("Put of %d items in %d: %d bytes with the digest, %d with the dummy", len(n.Items), form, len(text), len(draft))
	}
	for _, label := range labels {
		if digest, ok := textAt(m, label); !ok || digest != digestOf(draft) {
			t.Errorf("Put of %d items, %.60q, in %d: %q at %.20q; want %q", len(n.Items), labels, form, digest, label, digestOf(draft))
		}
	}
	for _, l := range [][]string{labels, reversed(labels), slices.Repeat(labels, 3)} {
		if again, digest, e := said.Check(text, l); e != api.OK || digest != digestOf(draft) || !node.Same(again, m) {
			t.Errorf("Check(%.90q, %.60q) of what Put made: %q, error %d", text, l, digest, e)
		}
	}
}

func expectNoPut(t *testing.T, n api.Node, labels []string, protocol string, form int, want api.Errno) {
	t.Helper()
	if m, text, e := said.Put(n, labels, protocol, form); e != want || text != "" || !node.Same(m, null) {
		t.Errorf("Put of kind %d, %d items, %d labels %.60q, %.20q, in %d: %d items, %d bytes, error %d; want error %d alone", n.Kind, len(n.Items), len(labels), labels, protocol, form, len(m.Items), len(text), e, want)
	}
}

// expectAny checks Put of anything, and returns its error.
func expectAny(t *testing.T, n api.Node, labels []string, protocol string, form int) api.Errno {
	t.Helper()
	_, _, e := putOf(n, labels, protocol, form)
	if e == api.OK {
		expectPut(t, n, labels, protocol, form)
	} else {
		expectNoPut(t, n, labels, protocol, form, e)
	}
	return e
}

// expectChecked checks Check of any string, and returns its error.
func expectChecked(t *testing.T, s string, labels []string) api.Errno {
	t.Helper()
	want, wantDigest, wantError := checkOf(s, labels)
	if m, digest, e := said.Check(s, labels); e != wantError || digest != wantDigest || !node.Same(m, want) {
		t.Errorf("Check(%.120q, %.60q): %d items, %q, error %d; want %d items, %q, error %d", s, labels, len(m.Items), digest, e, len(want.Items), wantDigest, wantError)
	}
	return wantError
}

func expectNoCheck(t *testing.T, s string, labels []string, want api.Errno) {
	t.Helper()
	if m, digest, e := said.Check(s, labels); e != want || digest != "" || !node.Same(m, null) {
		t.Errorf("Check(%.120q, %.60q): %d items, %q, error %d; want error %d alone", s, labels, len(m.Items), digest, e, want)
	}
	if e := expectChecked(t, s, labels); e != want {
		t.Errorf("the definition of Check(%.120q, %.60q) has error %d; want %d", s, labels, e, want)
	}
}

// made returns the bytes of a map that Put takes.
func made(t *testing.T, n api.Node, labels []string, form int) string {
	t.Helper()
	_, text, e := said.Put(n, labels, "KERI", form)
	if e != api.OK {
		t.Fatalf("Put of %d items, %.60q, in %d: error %d", len(n.Items), labels, form, e)
	}
	return text
}

// sealed returns the bytes of a map that build makes for a size and a text: with
// its own size, and with the digest of its bytes with the dummy.
func sealed(t *testing.T, form int, build func(size int, text string) api.Node) string {
	t.Helper()
	encoded := func(size int, text string) string {
		s, e := pack.EncodeAs(form, build(size, text))
		if e != api.OK {
			t.Fatalf("a map in %d: error %d", form, e)
		}
		return s
	}
	size := len(encoded(0, dummy))
	return encoded(size, digestOf(encoded(size, dummy)))
}

// P10.1

func TestDummy(t *testing.T) {
	if s := said.Dummy(); s != dummy || len(s) != 44 || strings.Trim(s, "#") != "" {
		t.Errorf("Dummy: %q", s)
	}
}

func TestDigestsOfKnownStrings(t *testing.T) {
	for s, want := range map[string]string{
		"":             "EOOwxEKY_BwUmvv0yJlvuSQnrkHkZJuTTKSVmRt4UrhV",
		"abc":          "ELp4Fr-PAc_qQUFA3l2uIiOwA2Gjlhd6nLQQ_2HyABWt",
		"\x00":         "EG40C5z_s3qYnKVE5rt4Cix4kB0_szc4doURowYXr6Ad",
		"\xff\xff\xff": "EFrn5qQjBNxuQXYhC4PEMCT5mgvOmocMO20slfyOv7dM",
		dummy:          "EI3BSPg9hgRgFA-sjjowpamFUS9MWmz5RwlOZHBDKpTO",
	} {
		if digest := said.Digest(s); digest != want || digestOf(s) != want {
			t.Errorf("Digest(%q): %q; want %q", s, digest, want)
		}
	}
}

func TestDigestsOfStrings(t *testing.T) {
	seen := map[string]string{}
	check := func(s string) {
		digest := said.Digest(s)
		if digest != digestOf(s) || len(digest) != len(said.Dummy()) || digest != primitive.Make(api.CodeDigest, hash.Sum(s)) {
			t.Errorf("Digest of %d bytes %.20q: %q; want %q", len(s), s, digest, digestOf(s))
		}
		if raw, e := primitive.Open(api.CodeDigest, digest); e != api.OK || raw != hash.Sum(s) {
			t.Errorf("Digest of %d bytes %.20q is no digest: error %d", len(s), s, e)
		}
		if other, ok := seen[digest]; ok && other != s {
			t.Errorf("%.20q and %.20q have the same digest", other, s)
		}
		seen[digest] = s
	}
	for count := range 300 {
		check(strings.Repeat("x", count))
		check(strings.Repeat("\xff", count) + "\x00")
	}
	for c := range 256 {
		check(string([]byte{byte(c)}))
	}
	for _, count := range []int{api.MaxBytes - 1, api.MaxBytes, api.MaxBytes + 1, 1 << 20, 16*api.MaxBytes + 1} {
		check(plain(count))
	}
}

// P10.2

// known are maps with their bytes, and digests computed elsewhere.
func known() []struct {
	n        api.Node
	labels   []string
	protocol string
	form     int
	text     string
	digest   string
} {
	old := named("d,a", node.Text("old"), node.Number(7))
	three := named("a,i,d", yes, null, null)
	other := named("i,a", node.Text("x"), node.Text("y"))
	both := []string{"d", "i"}
	return []struct {
		n        api.Node
		labels   []string
		protocol string
		form     int
		text     string
		digest   string
	}{
		{numbered(), one("d"), "KERI", api.FormJSON, `{"v":"KERI10JSON00004c_","d":"*"}`, "ELlPgJpqXbE7aEO7zDyGWIiCuxnEGaYhBMbqMM9Z1kYK"},
		{old, one("d"), "KERI", api.FormJSON, `{"v":"KERI10JSON000052_","d":"*","a":7}`, "EJEk4saU3AYYZBnfWKsQPWwJnRAcmOlgSmJpFBt_gn1g"},
		{three, both, "KERI", api.FormJSON, `{"v":"KERI10JSON000088_","a":true,"i":"*","d":"*"}`, "ECvqqHpqtZtLnjMe_bgEmDkVEl91SQVHwGj0kP7rojZB"},
		{other, both, "ACDC", api.FormJSON, `{"v":"ACDC10JSON000087_","i":"*","a":"y","d":"*"}`, "ENJyKQkSSBrXo4MnSenylvgaQ7Z2ArvT5A0NXhb3oWtO"},
		{numbered(), one("d"), "KERI", api.FormCBOR, "\xa2\x61v\x71KERI10CBOR000045_\x61d\x78\x2c*", "EEpUJzMgf_FbMlm6FQ8qIA_dClVeKzcM9zc67xubW5hE"},
		{old, one("d"), "KERI", api.FormCBOR, "\xa3\x61v\x71KERI10CBOR000048_\x61d\x78\x2c*\x61a\x07", "EDJW-Mvo0HQ4Y8Le3mz3MjTsx895TqzTvsB6CgYRydqH"},
		{three, both, "KERI", api.FormCBOR, "\xa4\x61v\x71KERI10CBOR000078_\x61a\xf5\x61i\x78\x2c*\x61d\x78\x2c*", "EHnVL4FqOvS4GlffmRmZGk4ycqB6aksW9Z_z9SuDqKC5"},
		{other, both, "ACDC", api.FormCBOR, "\xa4\x61v\x71ACDC10CBOR000079_\x61i\x78\x2c*\x61a\x61y\x61d\x78\x2c*", "ECVzrMu5gFdxd1L-QVnKMglehBppKCrzAXka0Nnig5N6"},
		{numbered(), one("d"), "KERI", api.FormPack, "\x82\xa1v\xb1KERI10MGPK000045_\xa1d\xd9\x2c*", "EOJHkavXH_hsU-Jtwu94ZyuL8mMcp6jcbcQqUCNlp1IT"},
		{old, one("d"), "KERI", api.FormPack, "\x83\xa1v\xb1KERI10MGPK000048_\xa1d\xd9\x2c*\xa1a\x07", "EA6Cc1A4OiUIavEA9ofNNR0u2ZNv1iztjt-aLOXLR2Tq"},
		{three, both, "KERI", api.FormPack, "\x84\xa1v\xb1KERI10MGPK000078_\xa1a\xc3\xa1i\xd9\x2c*\xa1d\xd9\x2c*", "EO5conirxmYaRX6bADNWD8KX_SP68dKGVoYye3Zuooff"},
		{other, both, "ACDC", api.FormPack, "\x84\xa1v\xb1ACDC10MGPK000079_\xa1i\xd9\x2c*\xa1a\xa1y\xa1d\xd9\x2c*", "EHbSsh_4BQmIbZf67BwGBLopNmP6xHl0aSJ9MROihHAm"},
	}
}

func TestPutAndCheckOfKnownMaps(t *testing.T) {
	for _, x := range known() {
		want := strings.ReplaceAll(x.text, "*", x.digest)
		m, text, e := said.Put(x.n, x.labels, x.protocol, x.form)
		if e != api.OK || text != want || len(m.Names) == 0 || m.Names[0] != "v" {
			t.Errorf("Put in %d: %q, error %d; want %q", x.form, text, e, want)
		}
		again, digest, e := said.Check(want, x.labels)
		if e != api.OK || digest != x.digest || !node.Same(again, m) {
			t.Errorf("Check(%q): %q, error %d; want %q", want, digest, e, x.digest)
		}
		expectPut(t, x.n, x.labels, x.protocol, x.form)
	}
}

func TestPutOfMaps(t *testing.T) {
	protocols := []string{"KERI", "ACDC", "AAAA", "ZZZZ", "JSON", "CBOR", "MGPK"}
	for i, n := range maps() {
		for j, labels := range labelLists() {
			for _, form := range forms {
				expectPut(t, n, labels, protocols[(i+j)%len(protocols)], form)
			}
		}
	}
}

func TestPutOfMapsThatHaveLabels(t *testing.T) {
	for i, n := range maps() {
		for j, labels := range [][]string{{"d"}, {"d", "i"}, {"i", "d"}, {"d", "i", "d"}, {"i"}} {
			item := values()[(i+j)%len(values())]
			for _, form := range forms {
				for _, place := range []int{0, len(n.Items) / 2, len(n.Items)} {
					with := withItem(n, place, "d", item)
					expectPut(t, with, labels, "KERI", form)
					expectPut(t, withItem(with, len(with.Items)-place, "i", yes), labels, "KERI", form)
				}
			}
		}
	}
}

// An item v is taken out, wherever it was and whatever it held.
func TestPutOfMapsWithAVersion(t *testing.T) {
	for i, n := range maps() {
		for _, form := range forms {
			want, wantText, _ := said.Put(n, []string{"d", "i"}, "ACDC", form)
			for _, place := range []int{0, len(n.Items) / 2, len(n.Items)} {
				for _, item := range []api.Node{node.Text(sample), node.Text(dummy), values()[(i+place)%len(values())]} {
					with := withItem(n, place, "v", item)
					expectPut(t, with, []string{"d", "i"}, "ACDC", form)
					if m, text, e := said.Put(with, []string{"d", "i"}, "ACDC", form); e != api.OK || text != wantText || !node.Same(m, want) {
						t.Errorf("Put of %d items and v at %d in %d: %.90q, error %d; want %.90q", len(n.Items), place, form, text, e, wantText)
					}
				}
			}
		}
	}
}

func TestNamesOfTheResult(t *testing.T) {
	for _, x := range []struct {
		has    string
		labels string
		want   string
	}{
		{"a", "d", "v,a,d"}, {"d", "d", "v,d"}, {"a,d,b", "d", "v,a,d,b"},
		{"a", "d,i", "v,a,d,i"}, {"a", "i,d", "v,a,i,d"}, {"i,a,d", "d,i", "v,i,a,d"}, {"d,a,i", "i,d", "v,d,a,i"},
		{"a,i", "d,i,x", "v,a,i,d,x"}, {"i,a", "x,i,d", "v,i,a,x,d"}, {"x,a,d", "i,d,e,x,f", "v,x,a,d,i,e,f"},
		{"a", "d,d", "v,a,d"}, {"a", "d,i,d,i,d", "v,a,d,i"}, {"a,d", "d,d", "v,a,d"}, {"a,d", "i,d,i", "v,a,d,i"},
		{"a,v,b", "d", "v,a,b,d"}, {"v,a", "d", "v,a,d"}, {"a,d,v", "i,d", "v,a,d,i"}, {"v", "", "v,"}, {",a", "", "v,,a"},
	} {
		l := strings.Split(x.has, ",")
		n := node.Map(l, slices.Repeat([]api.Node{node.Text("old")}, len(l)))
		labels := strings.Split(x.labels, ",")
		for _, form := range forms {
			m, _, e := said.Put(n, labels, "KERI", form)
			if got := strings.Join(m.Names, ","); e != api.OK || got != x.want {
				t.Errorf("Put of %s with the labels %s has %s, error %d; want %s", x.has, x.labels, got, e, x.want)
			}
			for i, name := range m.Names {
				if text := m.Items[i].Text; name != "v" && !slices.Contains(labels, name) && text != "old" {
					t.Errorf("Put of %s with the labels %s has %q at %s", x.has, x.labels, text, name)
				}
			}
			expectPut(t, n, labels, "KERI", form)
		}
	}
}

// Labels that the map has may be in any order, and any of them twice.
func TestOrderOfLabelsThatTheMapHas(t *testing.T) {
	n := named("x,a,d,i", null, yes, node.Text(""), node.Text("old"))
	for _, form := range forms {
		want := made(t, n, []string{"d", "i", "x"}, form)
		for _, labels := range []string{"d,x,i", "i,d,x", "i,x,d", "x,d,i", "x,i,d", "d,d,i,x", "x,i,d,i,x", "i,i,i,d,x,x"} {
			if got := made(t, n, strings.Split(labels, ","), form); got != want {
				t.Errorf("Put with the labels %s: %q; want %q", labels, got, want)
			}
		}
	}
}

func TestDigestDoesNotDependOnWhatStoodAtTheLabels(t *testing.T) {
	// A text that is longer than the limit of the bytes is replaced as well, and
	// a node that is nested as deeply as can be.
	more := []api.Node{node.Text(plain(api.MaxBytes)), list(node.Text(plain(api.MaxBytes)), node.Text(plain(api.MaxBytes))), inMaps(null, "d", api.MaxDepth-2), list(nulls(api.MaxItems)...)}
	for _, form := range forms {
		for _, labels := range [][]string{{"d"}, {"d", "i"}, {"i", "d", "i"}} {
			n := named("a,d,b,i", yes, null, node.Text("text"), null)
			if len(labels) == 1 {
				n = named("a,d,b", yes, null, node.Text("text"))
			}
			want := made(t, n, labels, form)
			m, digest, _ := said.Check(want, labels)
			for _, item := range append(append(values(), more...), node.Text(digest)) {
				for _, label := range labels {
					with, e := node.Put(n, label, item)
					if got := made(t, with, labels, form); e != api.OK || got != want {
						t.Errorf("Put with a node of kind %d at %s: %q; want %q", item.Kind, label, got, want)
					}
				}
			}
			if got := made(t, m, labels, form); got != want {
				t.Errorf("Put of what Put gave: %q; want %q", got, want)
			}
		}
	}
}

func TestDigestDependsOnAllElse(t *testing.T) {
	seen := map[string]string{}
	add := func(what string, n api.Node, labels []string, protocol string, form int) {
		_, text, e := said.Put(n, labels, protocol, form)
		_, digest, _ := said.Check(text, labels)
		if other, ok := seen[digest]; ok || e != api.OK || digest == "" {
			t.Errorf("%s: digest %q, error %d, as %s", what, digest, e, other)
		}
		seen[digest] = what
	}
	for i, n := range maps() {
		for _, form := range forms {
			for _, protocol := range []string{"KERI", "KERJ", "ACDC"} {
				for _, labels := range [][]string{{"d"}, {"i"}, {"d", "i"}, {"i", "d"}} {
					add(fmt.Sprint("map ", i, labels, protocol, form), n, labels, protocol, form)
				}
			}
		}
	}
	add("a, b", named("a,b", null, yes), one("d"), "KERI", 1)
	add("b, a", named("b,a", yes, null), one("d"), "KERI", 1)
	add("d in front", named("d,a,b", null, null, yes), one("d"), "KERI", 1)
	add("another text", named("a,b", null, node.Text("true")), one("d"), "KERI", 1)
	add("another label that is there", named("d,x,a", node.Text(dummy), node.Text(dummy), null), one("d"), "KERI", 1)
	add("both", named("d,x,a", node.Text(dummy), null, null), []string{"d", "x"}, "ACDC", 1)
}

// A dummy that stands elsewhere is no place of the digest.
func TestDummiesElsewhere(t *testing.T) {
	text := node.Text(dummy)
	for _, form := range forms {
		for _, n := range []api.Node{named("a,d,i", text, text, text), named("d,a", null, list(text, named("d", text))), named(dummy+",d", text, text), named("a", node.Text(strings.Repeat("#", 200)))} {
			expectPut(t, n, one("d"), "KERI", form)
			m, s, _ := said.Put(n, one("d"), "KERI", form)
			_, digest, e := said.Check(s, one("d"))
			if e != api.OK || strings.Count(s, digest) != 1 || !strings.Contains(s, dummy) {
				t.Errorf("Put with dummies elsewhere in %d: %q, error %d", form, s, e)
			}
			for i, name := range n.Names {
				if item, ok := node.Get(m, name); name != "d" && (!ok || !node.Same(item, n.Items[i])) {
					t.Errorf("Put with dummies elsewhere in %d changes %q: %q", form, name, s)
				}
			}
		}
	}
}

// nil and empty lists mean the same.
func TestPutOfEmptyLists(t *testing.T) {
	for _, form := range forms {
		want := made(t, numbered(), one("d"), form)
		for _, n := range []api.Node{{Kind: api.NodeMap, Names: []string{}, Items: []api.Node{}}, {Kind: api.NodeMap, Names: make([]string, 0, 3)}, {Kind: api.NodeMap, Items: make([]api.Node, 0, 3)}} {
			if got := made(t, n, one("d"), form); got != want {
				t.Errorf("Put of an empty map: %q; want %q", got, want)
			}
		}
		expectNoPut(t, numbered(), []string{}, "KERI", form, api.ErrRange)
		expectNoCheck(t, want, []string{}, api.ErrMissing)
		expectNoCheck(t, want, nil, api.ErrMissing)
	}
}

func TestLimitOfItems(t *testing.T) {
	both := []string{"d", "i"}
	for _, form := range forms {
		for count := api.MaxItems - 5; count < api.MaxItems+3; count++ {
			for _, n := range []api.Node{numbered(nulls(count)...), withItem(numbered(nulls(count-1)...), 7, "d", yes), withItem(withItem(numbered(nulls(count-2)...), 7, "d", yes), 9, "i", yes)} {
				for _, labels := range [][]string{{"d"}, {"d", "d"}, both, {"i", "d", "i"}} {
					items := count + 1 // with v
					for _, label := range both {
						if slices.Contains(labels, label) && !slices.Contains(n.Names, label) {
							items++
						}
					}
					// The map with the version and all labels counts, not the map that was given.
					if items <= api.MaxItems {
						expectPut(t, n, labels, "KERI", form)
					} else {
						expectNoPut(t, n, labels, "KERI", form, api.ErrInvalid)
					}
					if with := withItem(n, count/2, "v", null); items <= api.MaxItems && count < api.MaxItems {
						expectPut(t, with, labels, "KERI", form)
					} else {
						expectNoPut(t, with, labels, "KERI", form, api.ErrInvalid)
					}
				}
			}
		}
		full := withItem(withItem(numbered(nulls(api.MaxItems-2)...), 0, "v", null), 100, "d", null)
		expectPut(t, full, one("d"), "KERI", form)
		expectNoPut(t, full, both, "KERI", form, api.ErrInvalid)
		full = withItem(numbered(nulls(api.MaxItems-1)...), 100, "d", null)
		expectNoPut(t, full, one("d"), "KERI", form, api.ErrInvalid)
	}
}

func TestManyLabels(t *testing.T) {
	for _, form := range forms {
		for _, count := range []int{10, 100, 254, 255} {
			labels := numberedNames(count)
			expectPut(t, numbered(), labels, "KERI", form)
			expectPut(t, numbered(nulls(count/2)...), reversed(labels), "KERI", form)
			expectPut(t, numbered(nulls(255)...), labels, "KERI", form)
			expectPut(t, numbered(), slices.Concat(labels, reversed(labels)), "KERI", form)
		}
		expectNoPut(t, numbered(), numberedNames(256), "KERI", form, api.ErrInvalid)
		expectNoPut(t, numbered(), numberedNames(100000), "KERI", form, api.ErrInvalid)
		expectNoPut(t, named("d", null), slices.Concat(one("d"), numberedNames(255)), "KERI", form, api.ErrInvalid)
		expectNoPut(t, numbered(), append(numberedNames(1000), "v"), "KERI", form, api.ErrRange)
		expectPut(t, numbered(nulls(200)...), slices.Repeat([]string{"d", "n7"}, 10000), "KERI", form)
		s := made(t, numbered(nulls(200)...), one("d"), form)
		expectNoCheck(t, s, append(slices.Repeat(one("d"), 10000), "i"), api.ErrMissing)
		expectNoCheck(t, s, numberedNames(10000), api.ErrMissing)
	}
}

func TestLimitOfDepth(t *testing.T) {
	for _, form := range forms {
		for _, leaf := range []api.Node{null, node.Text(dummy), list(), numbered()} {
			for levels := 1; levels < 2*api.MaxDepth; levels++ {
				for _, n := range []api.Node{inMaps(leaf, "a", levels), inMaps(leaf, "d", levels), named("a,d", null, inMaps(leaf, "b", levels-1)), named("d,a", null, inMaps(leaf, "d", levels-1)), named("v,d", inMaps(leaf, "b", levels-1), null)} {
					// What is nested too deeply at a label would be replaced, but makes the map invalid.
					if levels < api.MaxDepth {
						expectPut(t, n, one("d"), "KERI", form)
						expectPut(t, n, []string{"i", "d"}, "KERI", form)
					} else {
						expectNoPut(t, n, one("d"), "KERI", form, api.ErrInvalid)
						expectNoPut(t, n, []string{"i", "d"}, "KERI", form, api.ErrInvalid)
					}
				}
			}
		}
	}
}

// filled returns valid maps whose bytes, as Put gives them with a label d, are so
// many.
func filled(t *testing.T, bytes, form int) []api.Node {
	t.Helper()
	var l []api.Node
	for _, around := range []func(s string) api.Node{
		func(s string) api.Node { return named("a", node.Text(s)) },
		func(s string) api.Node { return named("d,a", null, node.Text(s)) },
		func(s string) api.Node { return named("a,d", node.Text(s), node.Text(plain(api.MaxBytes))) },
		func(s string) api.Node { return named(s, null) },
		func(s string) api.Node { return named("b,v,a", null, node.Text(plain(1000)), node.Text(s)) },
		func(s string) api.Node {
			return numbered(append(slices.Repeat([]api.Node{node.Text(plain(200))}, 253), node.Text(s))...)
		},
	} {
		// 300 characters have as long a head as all that fit into the limit.
		_, text, e := putOf(around(plain(300)), one("d"), "KERI", form)
		if e != api.OK {
			t.Fatalf("a map to be filled has error %d", e)
		}
		l = append(l, around(plain(bytes-len(text)+300)))
	}
	return l
}

func TestLimitOfBytes(t *testing.T) {
	for _, form := range forms {
		for _, bytes := range []int{api.MaxBytes - 2, api.MaxBytes - 1, api.MaxBytes, api.MaxBytes + 1, api.MaxBytes + 2} {
			for i, n := range filled(t, bytes, form) {
				if bytes > api.MaxBytes {
					expectNoPut(t, n, one("d"), "KERI", form, api.ErrLimit)
					continue
				}
				expectPut(t, n, one("d"), "KERI", form)
				if s := made(t, n, one("d"), form); len(s) != bytes {
					t.Errorf("Put of map %d in %d has %d bytes; want %d", i, form, len(s), bytes)
				}
				// There is no room for a second digest, except in the place of what it replaces.
				if i == 5 {
					expectPut(t, n, []string{"d", "n7"}, "KERI", form)
				} else {
					expectNoPut(t, n, []string{"d", "i"}, "KERI", form, api.ErrLimit)
				}
			}
		}
		long := plain(api.MaxBytes)
		expectPut(t, named("d", node.Text(long)), one("d"), "KERI", form)
		expectPut(t, named("a,d,i", yes, list(node.Text(long), node.Text(long)), node.Text(long)), []string{"i", "d"}, "KERI", form)
		expectPut(t, named("v,d", node.Text(long), node.Text(long)), one("d"), "KERI", form)
		expectNoPut(t, named("a", node.Text(long)), one("d"), "KERI", form, api.ErrLimit)
		expectNoPut(t, named("a,d", node.Text(long), node.Text(long)), one("d"), "KERI", form, api.ErrLimit)
		expectNoPut(t, numbered(), one(long), "KERI", form, api.ErrLimit)
		expectNoPut(t, named(long, null), one("d"), "KERI", form, api.ErrLimit)
	}
}

// A valid map may be far longer than the limit.
func TestPutOfVeryLongMaps(t *testing.T) {
	row := list(slices.Repeat([]api.Node{node.Text(plain(4000))}, api.MaxItems)...)
	rows := list(slices.Repeat([]api.Node{row}, api.MaxItems)...)
	for _, form := range forms {
		expectNoPut(t, named("a", rows), one("d"), "KERI", form, api.ErrLimit)
		expectNoPut(t, named("d,a", yes, rows), one("d"), "KERI", form, api.ErrLimit)
		expectPut(t, named("a,d", yes, rows), one("d"), "KERI", form)
	}
}

func TestPutWithoutLabelsOrWithV(t *testing.T) {
	for _, n := range []api.Node{numbered(), named("d", null), named("v", null), named("d,v", null, node.Text(sample))} {
		for _, form := range forms {
			for _, labels := range [][]string{nil, {}, {"v"}, {"v", "v"}, {"d", "v"}, {"v", "d"}, {"d", "v", "i"}, {"\xff", "v"}} {
				expectNoPut(t, n, labels, "KERI", form, api.ErrRange)
			}
		}
	}
}

func TestPutOfLabelsThatAreNoNames(t *testing.T) {
	for _, n := range []api.Node{numbered(), named("d", null)} {
		for _, form := range forms {
			for _, label := range []string{"\xff", "d\xff", "\xc3", "\xed\xa0\x80", "\xf4\x90\x80\x80", "v\xff", plain(api.MaxBytes + 1)} {
				expectNoPut(t, n, one(label), "KERI", form, api.ErrInvalid)
				expectNoPut(t, n, []string{"d", label}, "KERI", form, api.ErrInvalid)
				expectNoPut(t, n, []string{label, "d", label}, "KERI", form, api.ErrInvalid)
			}
		}
	}
}

func TestPutOfWhatIsNoValidMap(t *testing.T) {
	for _, n := range broken() {
		for _, form := range forms {
			for _, labels := range [][]string{{"d"}, {"i"}, {"d", "i"}, {"a", "d", "v "}, {"\xff"}} {
				expectNoPut(t, n, labels, "KERI", form, api.ErrInvalid)
			}
		}
	}
}

func TestPutOfNoValidVersion(t *testing.T) {
	long := node.Text(plain(api.MaxBytes))
	for _, n := range append(broken(), numbered(), named("d", null), named("a", long), numbered(nulls(api.MaxItems)...)) {
		for _, labels := range [][]string{{"d"}, {"\xff"}, {"d", "i"}} {
			for i, protocol := range badProtocols() {
				expectNoPut(t, n, labels, protocol, forms[i%3], api.ErrRange)
			}
			for _, form := range noForms() {
				expectNoPut(t, n, labels, "KERI", form, api.ErrRange)
			}
		}
	}
}

func TestOrderOfTheErrorsOfPut(t *testing.T) {
	long := node.Text(plain(api.MaxBytes))
	full := numbered(slices.Repeat([]api.Node{long}, api.MaxItems)...)
	for _, n := range append(broken(), full) {
		// ErrRange comes before all others, for each of its reasons.
		expectNoPut(t, n, nil, "KERI", api.FormJSON, api.ErrRange)
		expectNoPut(t, n, one("v"), "KERI", api.FormCBOR, api.ErrRange)
		expectNoPut(t, n, []string{"d", "v"}, "KERI", api.FormPack, api.ErrRange)
		expectNoPut(t, n, nil, "x", 0, api.ErrRange)
		expectNoPut(t, n, one("d"), "x", api.FormJSON, api.ErrRange)
		expectNoPut(t, n, one("d"), "KERI", 0, api.ErrRange)
		expectNoPut(t, n, []string{plain(api.MaxBytes + 1), "v"}, "KERI", 1, api.ErrRange)
	}
	for _, form := range forms {
		// ErrInvalid comes before ErrLimit, for the map that was given and for the one that results.
		expectNoPut(t, full, one("d"), "KERI", form, api.ErrInvalid)
		expectNoPut(t, named("a,b", long, api.Node{Kind: 6}), one("d"), "KERI", form, api.ErrInvalid)
		expectNoPut(t, named("a,d", long, api.Node{Kind: 6}), one("d"), "KERI", form, api.ErrInvalid)
		expectNoPut(t, named("a", long), one("\xff"), "KERI", form, api.ErrInvalid)
		expectNoPut(t, named("a", long), []string{"d", plain(api.MaxBytes + 1)}, "KERI", form, api.ErrInvalid)
		expectNoPut(t, numbered(slices.Repeat([]api.Node{long}, api.MaxItems-1)...), one("d"), "KERI", form, api.ErrInvalid)
		expectNoPut(t, numbered(slices.Repeat([]api.Node{long}, api.MaxItems-2)...), one("d"), "KERI", form, api.ErrLimit)
		expectNoPut(t, list(long, long), one("d"), "KERI", form, api.ErrInvalid)
		expectNoPut(t, long, one("d"), "KERI", form, api.ErrInvalid)
	}
}

// P10.3

func TestCheckWithoutAVersion(t *testing.T) {
	strange := []string{"", "x", "{}", "[]", "null", "{\"d\":\"" + dummy + "\"}", "\xa0", "\x80", sample[1:], sample[:16], "keri10JSON0000fb_", strings.Repeat("x", 25) + sample, plain(api.MaxBytes + 1), "{\"" + plain(24) + "\":null,\"v\":\"KERI10JSON00003a_\"}"}
	for _, form := range forms {
		s := made(t, named("d,a", null, yes), one("d"), form)
		strange = append(strange, strings.Replace(s, "KERI", "KERi", 1), strings.Replace(s, "10"+names[form], "1 "+names[form], 1), strings.Replace(s, names[form], "PACK", 1), strings.Replace(s, "_", "-", 1), strings.Repeat("\x00", 25)+s, s[:15])
	}
	for _, s := range strange {
		for _, labels := range [][]string{nil, {"d"}, {"v"}, {"d", "x"}} {
			expectNoCheck(t, s, labels, api.ErrVersion)
		}
	}
}

func TestCheckOfAnotherSize(t *testing.T) {
	for _, form := range forms {
		s := made(t, named("d,a", null, node.Text("text")), one("d"), form)
		right := versionText("KERI", 1, 0, form, len(s))
		for _, labels := range [][]string{nil, {"d"}, {"v"}, {"d", "x"}} {
			for _, size := range []int{0, 1, len(s) - 1, len(s) + 1, len(s) + 256, len(s) + 65536, 1<<24 - 1} {
				expectNoCheck(t, strings.Replace(s, right, versionText("KERI", 1, 0, form, size), 1), labels, api.ErrSize)
			}
			for _, more := range []string{"x", " ", "\n", "\x00", "}", s, plain(api.MaxBytes)} {
				expectNoCheck(t, s+more, labels, api.ErrSize)
			}
			for _, more := range []string{"x", " ", "\x00", "{"} {
				expectNoCheck(t, more+s, labels, api.ErrSize)
			}
			for count := 23; count < len(s); count++ {
				expectNoCheck(t, s[:count], labels, api.ErrSize)
			}
			expectNoCheck(t, s[1:], labels, api.ErrSize)
			expectNoCheck(t, strings.Replace(s, "text", "tex", 1), labels, api.ErrSize)
		}
	}
}

// resized returns a string with the right size in its version, which stands at
// a place.
func resized(s string, place int) string {
	return s[:place+10] + fmt.Sprintf("%06x", len(s)) + s[place+16:]
}

func TestCheckOfWhatIsNoMap(t *testing.T) {
	text := func(form int) string { return versionText("KERI", 1, 0, form, 0) }
	for _, labels := range [][]string{nil, {"d"}, {"v"}, {"x"}} {
		for _, s := range []string{
			resized(text(1), 0), resized(text(2), 0), resized(text(3), 0), resized(text(1)+plain(100), 0), resized("\""+text(1)+"\"", 1), resized("[\""+text(1)+"\"]", 2), resized("["+"\"v\",\""+text(1)+"\"]", 6),
			resized("\x71"+text(2), 1), resized("\x81\x71"+text(2), 2), resized("\x82\x61v\x71"+text(2), 4), resized("\xb1"+text(3), 1), resized("\x91\xb1"+text(3), 2),
			resized("{\"v\":\""+text(1)+"\"", 6), resized("{\"v\": \""+text(1)+"\"}", 7), resized("{\"v\":\""+text(1)+"\",}", 6), resized("{\"v\":\""+text(1)+"\",\"v\":\""+text(1)+"\"}", 6), resized(" {\"v\":\""+text(1)+"\"}", 7), resized("{\"v\":\""+text(1)+"\"} ", 6),
			resized("{\"v\":\""+text(1)+"\",\"d\":\"\xff\"}", 6), resized("{\"v\":\""+text(1)+"\",\"d\":01}", 6), resized("{\"v\":\""+text(1)+"\",\"d\":\"\\u0041\"}", 6), resized("\xa2\x61v\x71"+text(2), 4), resized("\xa1\x61v\x78\x11"+text(2), 5), resized("\xb8\x01\x61v\x71"+text(2), 5),
			resized("\x81\xa1v\xd9\x11"+text(3), 5), resized("\xde\x00\x01\xa1v\xb1"+text(3), 6),
		} {
			expectNoCheck(t, s, labels, api.ErrForm)
		}
	}
}

// The bytes of a map in one serialisation, with a version that says another one.
func TestCheckInAnotherSerialisation(t *testing.T) {
	for _, form := range forms {
		for _, told := range forms {
			s := sealed(t, form, func(size int, text string) api.Node {
				return named("v,d,a", node.Text(versionText("KERI", 1, 0, told, size)), node.Text(text), yes)
			})
			if form == told {
				if e := expectChecked(t, s, one("d")); e != api.OK {
					t.Errorf("Check(%q): error %d", s, e)
				}
				continue
			}
			for _, labels := range [][]string{nil, {"d"}, {"v"}, {"x"}} {
				expectNoCheck(t, s, labels, api.ErrForm)
			}
		}
	}
}

func TestCheckOfAnItemVThatIsNotTheVersion(t *testing.T) {
	for _, form := range forms {
		right := func(size int) api.Node { return node.Text(versionText("KERI", 1, 0, form, size)) }
		for i, build := range []func(size int, text string) api.Node{
			// no item v
			func(size int, text string) api.Node { return named("w,d", right(size), node.Text(text)) },
			func(size int, text string) api.Node { return named("V,d", right(size), node.Text(text)) },
			func(size int, text string) api.Node { return named("d,a", node.Text(text), null) },
			func(size int, text string) api.Node {
				return named(right(size).Text+",d", null, node.Text(text))
			},
			func(size int, text string) api.Node { return named("a,d", named("v", right(size)), node.Text(text)) },
			// an item v that is something else
			func(size int, text string) api.Node { return named("a,v,d", right(size), null, node.Text(text)) },
			func(size int, text string) api.Node { return named("v,d", list(right(size)), node.Text(text)) },
			func(size int, text string) api.Node {
				return named("v,d", named("v", right(size)), node.Text(text))
			},
			func(size int, text string) api.Node {
				return named("v,d", node.Text(right(size).Text+"_"), node.Text(text))
			},
			func(size int, text string) api.Node {
				return named("v,d", node.Text("K"+right(size).Text), node.Text(text))
			},
			func(size int, text string) api.Node {
				return named("w,v,d", right(size), node.Text(versionText("ACDC", 1, 0, form, size)), node.Text(text))
			},
			func(size int, text string) api.Node {
				return named("w,v,d", right(size), node.Text(versionText("KERI", 1, 0, form, size+1)), node.Text(text))
			},
			func(size int, text string) api.Node {
				return named("w,v,d", right(size), node.Text(""), node.Text(text))
			},
		} {
			s := sealed(t, form, build)
			want := api.ErrForm
			if i == 2 {
				want = api.ErrVersion
			}
			for _, labels := range [][]string{nil, {"d"}, {"v"}, {"x"}} {
				expectNoCheck(t, s, labels, want)
			}
		}
	}
}

// The item v has the right text, but Put would have put it in front.
func TestCheckOfAnItemVElsewhere(t *testing.T) {
	for _, form := range forms {
		right := func(size int) api.Node { return node.Text(versionText("KERI", 1, 0, form, size)) }
		for _, build := range []func(size int, text string) api.Node{
			func(size int, text string) api.Node { return named("a,v,d", null, right(size), node.Text(text)) },
			func(size int, text string) api.Node { return named("a,d,v", right(size), node.Text(text), right(size)) },
			func(size int, text string) api.Node {
				return named(right(size).Text+",v,d", null, right(size), node.Text(text))
			},
			func(size int, text string) api.Node {
				return named("a,d,v", list(right(size)), node.Text(text), right(size))
			},
		} {
			s := sealed(t, form, build)
			expectNoCheck(t, s, one("d"), api.ErrSaid)
			expectNoCheck(t, s, nil, api.ErrMissing)
			expectNoCheck(t, s, one("x"), api.ErrMissing)
		}
	}
}

func TestCheckWithoutALabel(t *testing.T) {
	for _, form := range forms {
		s := made(t, named("d,a,b,c", null, yes, list(node.Text(dummy)), named("x", node.Text("x"))), []string{"d", "i"}, form)
		for _, labels := range []string{"x", "D", "", "d ", "\xff", "a", "b", "c", "d,x", "x,d", "d,i,x", "d,a", "a,d", "i,b", "v,x", "v,a", "d,c,i", "d,d,d,x", dummy, plain(api.MaxBytes + 1)} {
			expectNoCheck(t, s, strings.Split(labels, ","), api.ErrMissing)
		}
		expectNoCheck(t, s, nil, api.ErrMissing)
	}
}

// Items of all kinds at a label: only a text is one, and only the digest is right.
func TestCheckOfItemsAtALabel(t *testing.T) {
	for _, form := range forms {
		right := made(t, named("d,a", null, yes), one("d"), form)
		_, digest, _ := said.Check(right, one("d"))
		for _, item := range append(values(), node.Text(digest+"A"), node.Text(digest[1:]), node.Text("D"+digest[1:]), node.Text(strings.ToLower(digest)), node.Text(said.Digest(right))) {
			_, s, e := version.Fit(named("d,a", item, yes), "KERI", form)
			want := api.ErrMissing
			if item.Kind == api.NodeText {
				want = api.ErrSaid
			}
			if e != api.OK {
				t.Fatalf("a map has error %d", e)
			}
			expectNoCheck(t, s, one("d"), want)
			expectNoCheck(t, s, []string{"d", "v"}, want)
		}
	}
}

func TestCheckOfWrongDigests(t *testing.T) {
	for _, form := range forms {
		right := func(size int) api.Node { return node.Text(versionText("KERI", 1, 0, form, size)) }
		for i, x := range []struct {
			labels []string
			build  func(size int, text string) api.Node
		}{
			// the version of all that Put makes is 1, 0
			{one("d"), func(size int, text string) api.Node {
				return named("v,d", node.Text(versionText("KERI", 1, 1, form, size)), node.Text(text))
			}},
			{one("d"), func(size int, text string) api.Node {
				return named("v,d", node.Text(versionText("KERI", 2, 0, form, size)), node.Text(text))
			}},
			{one("d"), func(size int, text string) api.Node {
				return named("v,d", node.Text(versionText("KERI", 0, 0, form, size)), node.Text(text))
			}},
			{one("d"), func(size int, text string) api.Node {
				return named("v,d", node.Text(versionText("KERI", 15, 15, form, size)), node.Text(text))
			}},
			// the digest of one label, where there are two, or the other way round
			{[]string{"d", "i"}, func(size int, text string) api.Node {
				return named("v,d,i", right(size), node.Text(text), node.Text(dummy))
			}},
			{[]string{"d", "i"}, func(size int, text string) api.Node {
				return named("v,d,i", right(size), node.Text(text), node.Text(otherDigest))
			}},
			{[]string{"i", "d"}, func(size int, text string) api.Node {
				return named("v,d,i", right(size), node.Text(text), node.Text(""))
			}},
			{one("d"), func(size int, text string) api.Node {
				return named("v,d,i", right(size), node.Text(text), node.Text(text))
			}},
			// the text of the label is not the digest, which stands elsewhere
			{one("d"), func(size int, text string) api.Node {
				return named("v,i,d", right(size), node.Text(text), node.Text(dummy))
			}},
			{one("d"), func(size int, text string) api.Node {
				return named("v,d", right(size), node.Text(text+"x"))
			}},
			{one("d"), func(size int, text string) api.Node {
				return named("v,d", right(size), node.Text(text[1:]))
			}},
			{one("d"), func(size int, text string) api.Node {
				return named("v,d", right(size), node.Text(strings.ToUpper(text)))
			}},
			// v is no label of Put
			{one("v"), func(size int, text string) api.Node { return named("v,d", right(size), node.Text(text)) }},
			{[]string{"d", "v"}, func(size int, text string) api.Node { return named("v,d", right(size), node.Text(text)) }},
			{[]string{"v", "d"}, func(size int, text string) api.Node { return named("v,d", right(size), node.Text(text)) }},
		} {
			s := sealed(t, form, x.build)
			if len(firstOf(s)) == 0 {
				t.Fatalf("string %d has no version: %q", i, s)
			}
			expectNoCheck(t, s, x.labels, api.ErrSaid)
		}
		// A digest of other bytes: without the dummy, with another size, or in another serialisation.
		for _, before := range []func(size int) (string, api.Errno){
			func(size int) (string, api.Errno) {
				return pack.EncodeAs(form, named("v,d", right(size), node.Text("")))
			},
			func(size int) (string, api.Errno) { return pack.EncodeAs(form, named("v", right(size))) },
			func(size int) (string, api.Errno) { return pack.EncodeAs(form, named("d", node.Text(dummy))) },
			func(int) (string, api.Errno) { return pack.EncodeAs(form, named("v,d", right(0), node.Text(dummy))) },
			func(size int) (string, api.Errno) {
				return pack.EncodeAs(1+form%3, named("v,d", right(size), node.Text(dummy)))
			},
			func(size int) (string, api.Errno) { return "", api.OK },
		} {
			size := len(made(t, numbered(), one("d"), form))
			wrong, e := before(size)
			s, f := pack.EncodeAs(form, named("v,d", right(size), node.Text(digestOf(wrong))))
			if e != api.OK || f != api.OK || len(s) != size {
				t.Fatalf("a map of %d bytes in %d: errors %d, %d", len(s), form, e, f)
			}
			expectNoCheck(t, s, one("d"), api.ErrSaid)
		}
	}
}

// Put of a map that was decoded may have an error: with the digest in the place
// of a short text, the bytes are too many.
func TestCheckOfWhatPutCannotMake(t *testing.T) {
	for _, form := range forms {
		for _, bytes := range []int{api.MaxBytes - 44, api.MaxBytes - 43, api.MaxBytes - 1, api.MaxBytes} {
			_, text, _ := fittedOf(named("a,d", node.Text(plain(300)), node.Text("")), "KERI", form)
			n := named("a,d", node.Text(plain(bytes-len(text)+300)), node.Text(""))
			_, s, e := version.Fit(n, "KERI", form)
			if e != api.OK || len(s) != bytes {
				t.Fatalf("a map of %d bytes in %d: error %d", len(s), form, e)
			}
			expectNoCheck(t, s, one("d"), api.ErrSaid)
		}
	}
}

func TestCheckOfLongStrings(t *testing.T) {
	for _, form := range forms {
		for _, bytes := range []int{api.MaxBytes - 1, api.MaxBytes} {
			for _, n := range filled(t, bytes, form) {
				s := made(t, n, one("d"), form)
				if e := expectChecked(t, s, one("d")); e != api.OK || len(s) != bytes {
					t.Errorf("Check of %d bytes in %d: error %d", len(s), form, e)
				}
				expectNoCheck(t, s+"x", one("d"), api.ErrSize)
				expectNoCheck(t, strings.Replace(s, "pppp", "pppq", 1), one("d"), api.ErrSaid)
			}
		}
	}
	for _, bytes := range []int{api.MaxBytes + 1, api.MaxBytes + 2, 1 << 20, 1<<24 - 1} {
		s := "{\"v\":\"" + versionText("KERI", 1, 0, api.FormJSON, bytes) + "\",\"d\":\"" + dummy + "\",\"a\":\""
		s += plain(bytes-len(s)-2) + "\"}"
		expectNoCheck(t, s, one("d"), api.ErrForm)
		expectNoCheck(t, s, nil, api.ErrForm)
	}
	// No version has the size of such a string.
	s := "{\"v\":\"KERI10JSON000000_\"}"
	expectNoCheck(t, s+plain(1<<24-len(s)), one("d"), api.ErrSize)
}

// Each byte of a string replaced by each byte, taken out, or put in once more.
func TestCheckOfChangedStrings(t *testing.T) {
	counts := map[api.Errno]int{}
	for i, x := range known() {
		if i%4 == 0 || i%4 == 3 {
			continue
		}
		s := strings.ReplaceAll(x.text, "*", x.digest)
		for place := range len(s) {
			for c := range 256 {
				changed := s[:place] + string([]byte{byte(c)}) + s[place+1:]
				e := expectChecked(t, changed, x.labels)
				if (e == api.OK) != (changed == s) {
					t.Errorf("Check(%q): error %d", changed, e)
				}
				counts[e]++
				if i%4 == 1 {
					counts[expectChecked(t, s[:place]+changed[place:place+1]+s[place:], x.labels)]++
				}
			}
			counts[expectChecked(t, s[:place], x.labels)]++
			counts[expectChecked(t, s[place:], x.labels)]++
			counts[expectChecked(t, s[:place]+s[place+1:], x.labels)]++
		}
	}
	for _, e := range []api.Errno{api.OK, api.ErrVersion, api.ErrSize, api.ErrForm, api.ErrMissing, api.ErrSaid} {
		if counts[e] < 100 {
			t.Errorf("error %d came %d times", e, counts[e])
		}
	}
}

func TestOrderOfTheErrorsOfCheck(t *testing.T) {
	for _, form := range forms {
		other := forms[form%3]
		s := made(t, named("d,a", null, node.Text("text")), one("d"), form)
		changed := strings.Replace(s, "text", "tent", 1)
		noMap := strings.Replace(changed, names[form], names[other], 1)
		wrongSize := noMap + "x"
		noVersion := strings.Replace(wrongSize, "KERI", "keri", 1)
		for _, x := range []struct {
			s      string
			labels []string
			want   api.Errno
		}{
			{noVersion, nil, api.ErrVersion}, {noVersion, one("x"), api.ErrVersion},
			{wrongSize, nil, api.ErrSize}, {wrongSize, one("x"), api.ErrSize},
			{noMap, nil, api.ErrForm}, {noMap, one("x"), api.ErrForm},
			{changed, nil, api.ErrMissing}, {changed, one("x"), api.ErrMissing}, {changed, []string{"d", "x"}, api.ErrMissing}, {changed, []string{"v", "x"}, api.ErrMissing},
			{changed, one("d"), api.ErrSaid}, {changed, one("v"), api.ErrSaid},
		} {
			expectNoCheck(t, x.s, x.labels, x.want)
		}
		if e := expectChecked(t, s, one("d")); e != api.OK {
			t.Errorf("Check(%q): error %d", s, e)
		}
	}
}

// Labels are those of Put, no more and no less.
func TestCheckWithOtherLabels(t *testing.T) {
	n := named("a,d,i,x", node.Text("a"), node.Text("d"), node.Text("i"), node.Text("x"))
	subsets := [][]string{{"d"}, {"i"}, {"x"}, {"d", "i"}, {"d", "x"}, {"i", "x"}, {"d", "i", "x"}, {"a"}, {"a", "d"}}
	for _, form := range forms {
		for i, labels := range subsets {
			s := made(t, n, labels, form)
			for j, others := range subsets {
				if e := expectChecked(t, s, reversed(others)); (e == api.OK) != (i == j) || i != j && e != api.ErrSaid {
					t.Errorf("Check with the labels %q of what Put made with %q: error %d", others, labels, e)
				}
			}
		}
	}
}

// Rule 1

// roomy returns a copy of n with more memory behind its names and items, also
// within the items, and a function that tells whether all of it is as it was.
func roomy(n api.Node) (api.Node, func() bool) {
	var unchanged []func() bool
	names := append(slices.Clone(n.Names), "behind", "behind that")
	items := append(slices.Clone(n.Items), node.Text("behind"), yes)
	for i, item := range n.Items {
		copied, asItWas := roomy(item)
		items[i] = copied
		unchanged = append(unchanged, asItWas)
	}
	beforeNames, beforeItems := slices.Clone(names), slices.Clone(items)
	n.Names, n.Items = names[:len(n.Names)], items[:len(n.Items)]
	return n, func() bool {
		for _, asItWas := range unchanged {
			if !asItWas() {
				return false
			}
		}
		return slices.Equal(names, beforeNames) && slices.EqualFunc(items, beforeItems, node.Same)
	}
}

// overwrite writes into all memory that n has, also behind its items.
func overwrite(n api.Node) {
	for _, item := range n.Items[:cap(n.Items)] {
		overwrite(item)
	}
	for i := range cap(n.Items) {
		n.Items[:cap(n.Items)][i] = node.Text("overwritten")
	}
	for i := range cap(n.Names) {
		n.Names[:cap(n.Names)][i] = "overwritten"
	}
}

func TestArgumentsAndResultsShareNoMemory(t *testing.T) {
	var tested []api.Node
	for _, n := range maps() {
		tested = append(tested, n, withItem(n, 0, "d", list(null)), withItem(withItem(n, len(n.Items), "i", yes), 0, "v", named("a", yes)))
	}
	for i, n := range tested {
		if len(n.Items) > api.MaxItems-3 {
			continue
		}
		given, asItWas := roomy(n)
		allLabels := []string{"i", "d", "i", "behind"}
		labels := allLabels[:1+i%3]
		for _, form := range forms {
			first, text, e := said.Put(given, labels, "KERI", form)
			want, wantText, _ := putOf(n, labels, "KERI", form)
			if !asItWas() || e != api.OK || text != wantText {
				t.Errorf("Put changes a map of %d items, or has error %d", len(n.Items), e)
			}
			second, _, _ := said.Put(given, labels, "KERI", form)
			overwrite(first)
			if !asItWas() || !node.Same(second, want) {
				t.Errorf("the result of Put of %d items shares memory with the argument, or with another one", len(n.Items))
			}
			checked, _, _ := said.Check(text, labels)
			again, _, _ := said.Check(text, labels)
			overwrite(checked)
			if !node.Same(again, want) {
				t.Errorf("two results of Check of %d items share memory", len(n.Items))
			}
			for i, item := range second.Items {
				overwrite(item)
				overwrite(again.Items[i])
				if !slices.EqualFunc(second.Items[i+1:], want.Items[i+1:], node.Same) || !slices.EqualFunc(again.Items[i+1:], want.Items[i+1:], node.Same) {
					t.Errorf("items of the result of Put or Check of %d items share memory", len(n.Items))
				}
			}
			if !slices.Equal(second.Names, want.Names) || !slices.Equal(allLabels, []string{"i", "d", "i", "behind"}) {
				t.Errorf("Put or Check of %d items changes labels or names", len(n.Items))
			}
		}
	}
	for _, n := range broken()[:len(broken())-1] {
		given, asItWas := roomy(n)
		for _, form := range append(noForms(), forms...) {
			said.Put(given, []string{"d", "i"}, "KERI", form)
		}
		if !asItWas() {
			t.Errorf("Put changes a node of kind %d with %d items", n.Kind, len(n.Items))
		}
	}
}

// All of them, with many strings

// fromBytes makes a node of bytes, mostly a valid one, often with names that are
// labels.
func fromBytes(b []byte, levels int) (n api.Node, rest []byte) {
	if len(b) < 3 {
		return null, nil
	}
	choice, size, rest := b[0], int(b[1])%6, b[2:]
	switch choice % 8 {
	case 0:
		return api.Node{Kind: int(choice) / 8 % 7, Bool: choice > 250}, rest
	case 1:
		return node.Number((int(b[1]) - 128) << (choice / 4)), rest
	case 2:
		size = min(int(b[1])%40, len(rest))
		return node.Text(strings.ToValidUTF8(string(rest[:size]), dummy)), rest[size:]
	}
	n.Kind = api.NodeList
	if levels == api.MaxDepth || choice > 80 {
		n.Kind = api.NodeMap
	}
	for i := range size {
		if levels == 0 {
			break
		}
		var item api.Node
		item, rest = fromBytes(rest, levels-1)
		n.Items = append(n.Items, item)
		if n.Kind == api.NodeMap {
			n.Names = append(n.Names, "dvixab"[(i+int(choice))%6:][:1])
		}
	}
	return n, rest
}

// expectAll checks all promises of a node, a string, and a number.
func expectAll(t *testing.T, n api.Node, s string, number int) api.Errno {
	t.Helper()
	form := 1 + number%3
	var labels []string
	for i := range number / 3 % 4 {
		labels = append(labels, "dixabdixav"[(number>>(4*i+8))%10:][:1])
	}
	if digest := said.Digest(s); digest != digestOf(s) {
		t.Errorf("Digest(%q): %q; want %q", s, digest, digestOf(s))
	}
	e := expectAny(t, n, labels, "KERI", form)
	expectAny(t, n, labels, s[:min(4, len(s))], form)
	expectAny(t, n, []string{s}, "ACDC", form)
	expectChecked(t, s, labels)
	expectChecked(t, s, []string{s})
	// A string of the right size, with this one in it.
	_, text, f := version.Fit(replaced(n, []string{"a"}, strings.ToValidUTF8(s, "")), "KERI", form)
	if n.Kind == api.NodeMap && f == api.OK {
		expectChecked(t, text, labels)
	}
	_, text, _ = said.Put(n, labels, "KERI", form)
	if place := number % 50; place < len(text) && s != "" {
		expectChecked(t, text[:place]+s[:1]+text[place+1:], labels)
	}
	return e
}

func TestManyBytes(t *testing.T) {
	state := uint32(10)
	counts := map[api.Errno]int{}
	for range 20000 {
		b := make([]byte, 120)
		for i := range b {
			state = state*1664525 + 1013904223
			b[i] = byte(state >> 24)
		}
		n, _ := fromBytes(b, api.MaxDepth)
		text := make([]byte, state>>20%40)
		for i := range text {
			text[i] = "KERIJSONCBORMGPK0123456789abcdef_\"#"[int(b[i])%35]
		}
		counts[expectAll(t, n, string(text), int(state>>7))]++
	}
	if counts[api.OK] < 2000 || counts[api.ErrRange] < 100 || counts[api.ErrInvalid] < 100 {
		t.Error("errors of Put:", counts)
	}
}

// FuzzAll looks for nodes and strings that break a promise.
func FuzzAll(f *testing.F) {
	for i, x := range known() {
		f.Add(strings.ReplaceAll(x.text, "*", x.digest), i)
	}
	for i, n := range maps() {
		for _, form := range forms {
			if _, text, _ := said.Put(n, []string{"d", "i"}, "KERI", form); len(text) < 1000 {
				f.Add(text, i*i)
			}
		}
	}
	f.Fuzz(func(t *testing.T, s string, number int) {
		if len(s) > 1<<12 {
			return
		}
		n, _ := fromBytes([]byte(s), api.MaxDepth)
		expectAll(t, n, s, number&math.MaxInt)
		expectChecked(t, s, []string{"d"})
		expectChecked(t, s, []string{"d", "i"})
	})
}
