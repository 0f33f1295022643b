package version_test

import (
	"fmt"
	"math"
	"regexp"
	"slices"
	"strconv"
	"strings"
	"testing"

	"keyevent/api"
	"keyevent/node"
	"keyevent/pack"
	"keyevent/version"
)

// The definition, as the chapter has it

var (
	forms = []int{api.FormJSON, api.FormCBOR, api.FormPack}
	names = map[int]string{api.FormJSON: "JSON", api.FormCBOR: "CBOR", api.FormPack: "MGPK"}

	protocolPattern = regexp.MustCompile(`\A[A-Z]{4}\z`)
	textPattern     = regexp.MustCompile(`\A([A-Z]{4})([0-9a-f])([0-9a-f])(JSON|CBOR|MGPK)([0-9a-f]{6})_\z`)
)

func isValid(v api.Version) bool {
	return protocolPattern.MatchString(v.Protocol) && v.Major >= 0 && v.Major <= 15 && v.Minor >= 0 && v.Minor <= 15 &&
		v.Form >= 1 && v.Form <= 3 && v.Size >= 0 && v.Size <= 1<<24-1
}

// textOf is the definition of the text of a valid version.
func textOf(v api.Version) string {
	return fmt.Sprintf("%s%x%x%s%06x_", v.Protocol, v.Major, v.Minor, names[v.Form], v.Size)
}

// versionOf returns the version with a text, and whether there is one, without
// the package.
func versionOf(text string) (v api.Version, ok bool) {
	parts := textPattern.FindStringSubmatch(text)
	if parts == nil {
		return v, false
	}
	number := func(digits string) int {
		n, err := strconv.ParseUint(digits, 16, 24)
		if err != nil {
			panic(err)
		}
		return int(n)
	}
	v = api.Version{Protocol: parts[1], Major: number(parts[2]), Minor: number(parts[3]), Size: number(parts[5])}
	for form, name := range names {
		if name == parts[4] {
			v.Form = form
		}
	}
	return v, true
}

// firstOf returns the first version in a string, where it begins, and whether
// there is one.
func firstOf(s string) (v api.Version, place int, ok bool) {
	for place := 0; place <= 24 && place+17 <= len(s); place++ {
		if v, ok := versionOf(s[place : place+17]); ok {
			return v, place, true
		}
	}
	return v, 0, false
}

// fittedOf returns the map that Fit should give for a valid one, and its bytes.
func fittedOf(t *testing.T, n api.Node, protocol string, form int) (api.Node, string) {
	t.Helper()
	build := func(size int) (api.Node, string) {
		text := textOf(api.Version{Protocol: protocol, Major: 1, Minor: 0, Form: form, Size: size})
		fitted := api.Node{Kind: api.NodeMap, Names: []string{"v"}, Items: []api.Node{node.Text(text)}}
		for i, name := range n.Names {
			if name != "v" {
				fitted.Names, fitted.Items = append(fitted.Names, name), append(fitted.Items, n.Items[i])
			}
		}
		s, e := pack.EncodeAs(form, fitted)
		if e != api.OK {
			t.Fatalf("the map with its version has error %d", e)
		}
		return fitted, s
	}
	_, s := build(0)
	return build(len(s))
}

// Versions and strings

const sample = "KERI10JSON0000fb_"

var sampleVersion = api.Version{Protocol: "KERI", Major: 1, Minor: 0, Form: api.FormJSON, Size: 251}

// sizes are around each at which a digit changes, and some between.
func sizes() []int {
	l := []int{0, 251, 0x123456, 0xabcdef, 0x654321, 0xfedcba, api.MaxBytes - 1, api.MaxBytes, api.MaxBytes + 1}
	for bits := range 24 {
		power := 1 << bits
		l = append(l, power-1, power, power+1, power+power/2, 1<<24-power)
	}
	return l
}

var protocols = []string{"KERI", "ACDC", "AAAA", "ZZZZ", "AZAZ", "ZAAZ", "JSON", "CBOR", "MGPK", "MNOP"}

// versions are valid ones: all of some protocols, with some sizes.
func versions() []api.Version {
	var l []api.Version
	for major := range 16 {
		for minor := range 16 {
			for _, form := range forms {
				l = append(l, api.Version{Protocol: protocols[(major+minor)%len(protocols)], Major: major, Minor: minor, Form: form, Size: 4096*major + minor})
			}
		}
	}
	for i, size := range sizes() {
		for _, form := range forms {
			l = append(l, api.Version{Protocol: protocols[i%len(protocols)], Major: i % 16, Minor: (i + form) % 16, Form: form, Size: size})
		}
	}
	return l
}

// badProtocols are no four capital letters.
func badProtocols() []string {
	l := []string{
		"", "K", "KE", "KER", "KERIS", "KERIKERI", "keri", "Keri", "KERi", "kERI", "KeRI", "KErI", "K3RI", "3ERI", "KER1", "KE I", " KER", "KERI ", "KER\n", "KER_", "KER-", "KER@", "KER[", "@ERI", "[ERI", "KER\x00",
		"KER\xff", "\xffERI", "\xc1\xc1\xc1\xc1", "K\u00c9R", "\u00c9RI", "K\u00c9RI", "\u0410\u0411", "\u0410\u0412\u0415\u041a", "\uff2b\uff25\uff32\uff29", "\U0001d40a", "K\ufffd", "KERI\x00", "\x00KERI", "KERI10",
		sample, strings.Repeat("K", 1<<20),
	}
	for c := range 256 {
		if c < 'A' || c > 'Z' {
			for i := range 4 {
				l = append(l, "KERI"[:i]+string([]byte{byte(c)})+"KERI"[i+1:])
			}
		}
	}
	return l
}

// noForms are numbers of no serialisation.
func noForms() []int {
	return []int{0, -1, -2, -3, 4, 5, 10, 255, 257, 258, 259, 1<<32 + 1, 1<<32 + 2, math.MaxInt, math.MinInt, math.MinInt + 1}
}

// badVersions are not valid.
func badVersions() []api.Version {
	var l []api.Version
	add := func(change func(v *api.Version)) {
		for _, v := range []api.Version{sampleVersion, {Protocol: "ZZZZ", Major: 15, Minor: 15, Form: api.FormPack, Size: 1<<24 - 1}, {Protocol: "AAAA", Form: api.FormCBOR}} {
			change(&v)
			l = append(l, v)
		}
	}
	for _, protocol := range badProtocols() {
		add(func(v *api.Version) { v.Protocol = protocol })
	}
	for _, number := range []int{-1, -2, -15, -16, 16, 17, 31, 32, 255, 256, 257, 1 << 32, 1<<32 + 1, math.MaxInt, math.MinInt} {
		add(func(v *api.Version) { v.Major = number })
		add(func(v *api.Version) { v.Minor = number })
	}
	for _, form := range noForms() {
		add(func(v *api.Version) { v.Form = form })
	}
	for _, size := range []int{-1, -2, -251, -1 << 24, 1 << 24, 1<<24 + 1, 1<<24 + 251, 1 << 28, 1 << 32, 1<<32 + 251, math.MaxInt, math.MinInt} {
		add(func(v *api.Version) { v.Size = size })
	}
	return append(l, api.Version{}, api.Version{Protocol: "keri", Major: -1, Minor: 16, Form: 9, Size: -1})
}

// Checks

func expectText(t *testing.T, v api.Version) {
	t.Helper()
	want := textOf(v)
	if len(want) != 17 || !version.Valid(v) {
		t.Errorf("Valid(%+v): %t; its text has %d characters", v, version.Valid(v), len(want))
	}
	if s, e := version.Text(v); e != api.OK || s != want {
		t.Errorf("Text(%+v): %q, error %d; want %q", v, s, e, want)
	}
	if got, e := version.Parse(want); e != api.OK || got != v {
		t.Errorf("Parse(%q): %+v, error %d; want %+v", want, got, e, v)
	}
}

func expectNoText(t *testing.T, v api.Version) {
	t.Helper()
	if version.Valid(v) {
		t.Errorf("Valid(%.30q, %d, %d, %d, %d)", v.Protocol, v.Major, v.Minor, v.Form, v.Size)
	}
	if s, e := version.Text(v); e != api.ErrRange || s != "" {
		t.Errorf("Text(%.30q, %d, %d, %d, %d): %q, error %d", v.Protocol, v.Major, v.Minor, v.Form, v.Size, s, e)
	}
}

// expectParsed checks Parse of any string, and reports whether it is a text.
func expectParsed(t *testing.T, s string) bool {
	t.Helper()
	want, ok := versionOf(s)
	wantError := api.OK
	if !ok {
		wantError = api.ErrVersion
	}
	if v, e := version.Parse(s); e != wantError || v != want {
		t.Errorf("Parse(%.40q): %+v, error %d; want %+v, error %d", s, v, e, want, wantError)
	}
	return ok
}

// expectFound checks Find in any string, and reports whether a version is there.
func expectFound(t *testing.T, s string) bool {
	t.Helper()
	want, wantPlace, ok := firstOf(s)
	wantError := api.OK
	if !ok {
		wantError = api.ErrVersion
	}
	if v, place, e := version.Find(s); e != wantError || place != wantPlace || v != want {
		t.Errorf("Find(%.60q): %+v at %d, error %d; want %+v at %d, error %d", s, v, place, e, want, wantPlace, wantError)
	}
	return ok
}

func expectFoundAt(t *testing.T, s string, want api.Version, wantPlace int) {
	t.Helper()
	if v, place, e := version.Find(s); e != api.OK || place != wantPlace || v != want {
		t.Errorf("Find(%.60q): %+v at %d, error %d; want %+v at %d", s, v, place, e, want, wantPlace)
	}
}

func expectNotFound(t *testing.T, s string) {
	t.Helper()
	if v, place, e := version.Find(s); e != api.ErrVersion || place != 0 || v != (api.Version{}) {
		t.Errorf("Find(%.60q): %+v at %d, error %d; want error %d alone", s, v, place, e, api.ErrVersion)
	}
}

// expectFit checks Fit of a map that has a result, and what follows from it.
func expectFit(t *testing.T, n api.Node, protocol string, form int) {
	t.Helper()
	want, wantText := fittedOf(t, n, protocol, form)
	fitted, text, e := version.Fit(n, protocol, form)
	if e != api.OK || !node.Same(fitted, want) || text != wantText {
		t.Errorf("Fit of %d items, %q, in %d: %d bytes %.50q, error %d; want %d bytes %.50q", len(n.Items), protocol, form, len(text), text, e, len(wantText), wantText)
		return
	}
	size := api.Version{Protocol: protocol, Major: 1, Form: form, Size: len(text)}
	if v, place, e := version.Find(text); e != api.OK || v != size || text[place:place+17] != fitted.Items[0].Text {
		t.Errorf("Find of the bytes %.50q of Fit: %+v at %d, error %d", text, v, place, e)
	}
	if back, e := pack.DecodeAs(form, text); e != api.OK || !node.Same(back, fitted) {
		t.Errorf("the bytes %.50q of Fit are no bytes of its map: error %d", text, e)
	}
}

func expectNoFit(t *testing.T, n api.Node, protocol string, form int, want api.Errno) {
	t.Helper()
	if fitted, text, e := version.Fit(n, protocol, form); e != want || text != "" || !node.Same(fitted, api.Node{}) {
		t.Errorf("Fit of kind %d, %d items, %.20q, in %d: %d items, %d bytes, error %d; want error %d alone", n.Kind, len(n.Items), protocol, form, len(fitted.Items), len(text), e, want)
	}
}

// P9.1: Valid, Text and Parse

func TestTextsAsTheChapterHasThem(t *testing.T) {
	for text, v := range map[string]api.Version{
		"KERI10JSON0000fb_": {Protocol: "KERI", Major: 1, Minor: 0, Form: api.FormJSON, Size: 251},
		"KERI10CBOR0000fb_": {Protocol: "KERI", Major: 1, Minor: 0, Form: api.FormCBOR, Size: 251},
		"KERI10MGPK0000fb_": {Protocol: "KERI", Major: 1, Minor: 0, Form: api.FormPack, Size: 251},
		"ACDC01JSON000000_": {Protocol: "ACDC", Major: 0, Minor: 1, Form: 1, Size: 0},
		"AAAA00CBOR000001_": {Protocol: "AAAA", Major: 0, Minor: 0, Form: 2, Size: 1},
		"ZZZZ9aMGPK00000f_": {Protocol: "ZZZZ", Major: 9, Minor: 10, Form: 3, Size: 15},
		"AZBYa9JSON000010_": {Protocol: "AZBY", Major: 10, Minor: 9, Form: 1, Size: 16},
		"JSONf0CBOR010000_": {Protocol: "JSON", Major: 15, Minor: 0, Form: 2, Size: 65536},
		"MGPK0fJSONabcdef_": {Protocol: "MGPK", Major: 0, Minor: 15, Form: 1, Size: 0xabcdef},
		"CBORffMGPKffffff_": {Protocol: "CBOR", Major: 15, Minor: 15, Form: 3, Size: 1<<24 - 1},
	} {
		if s, e := version.Text(v); e != api.OK || s != text || !version.Valid(v) {
			t.Errorf("Text(%+v): %q, error %d; want %q", v, s, e, text)
		}
		if got, e := version.Parse(text); e != api.OK || got != v {
			t.Errorf("Parse(%q): %+v, error %d; want %+v", text, got, e, v)
		}
	}
}

func TestTextsOfVersions(t *testing.T) {
	seen := map[string]api.Version{}
	for _, v := range versions() {
		expectText(t, v)
		s, _ := version.Text(v)
		if other, ok := seen[s]; ok && other != v {
			t.Errorf("%+v and %+v have the same text", other, v)
		}
		seen[s] = v
	}
	for _, protocol := range protocols {
		for _, form := range forms {
			for number := range 16 {
				expectText(t, api.Version{Protocol: protocol, Major: number, Minor: 15 - number, Form: form, Size: number})
			}
		}
	}
	for size := 0; size < 1<<24; size += 4001 {
		expectText(t, api.Version{Protocol: "KERI", Major: 1, Form: api.FormCBOR, Size: size})
	}
}

func TestAllLettersOfAProtocol(t *testing.T) {
	for letter := 'A'; letter <= 'Z'; letter++ {
		for i := range 4 {
			v := sampleVersion
			v.Protocol = "KERI"[:i] + string(letter) + "KERI"[i+1:]
			expectText(t, v)
		}
	}
}

func TestTextOfWhatIsNoVersion(t *testing.T) {
	for _, v := range badVersions() {
		if isValid(v) {
			t.Fatalf("the definition takes %+v", v)
		}
		expectNoText(t, v)
	}
}

// Each character of a text replaced by each byte.
func TestParseOfChangedTexts(t *testing.T) {
	found := 0
	for _, text := range []string{sample, "ACDC0fCBOR000000_", "AZAZfaMGPKffffff_", "JSON99JSON999999_"} {
		for i := range len(text) {
			for c := range 256 {
				if expectParsed(t, text[:i]+string([]byte{byte(c)})+text[i+1:]) {
					found++
				}
			}
		}
	}
	// four letters, eight digits, and what stays as it is: four of a form, and the last character
	if want := 4 * (4*26 + 8*16 + 5); found != want {
		t.Errorf("%d changed texts are texts; want %d", found, want)
	}
}

func TestParseOfOtherLengths(t *testing.T) {
	for _, v := range versions() {
		text := textOf(v)
		for i := range len(text) {
			for _, s := range []string{text[:i], text[i+1:], text[:i] + text[i+1:], text[:i] + text[i:i+1] + text[i:], text[:i] + "0" + text[i:]} {
				if expectParsed(t, s) {
					t.Errorf("%q is no text", s)
				}
			}
		}
		for _, more := range []string{"_", "0", " ", "\x00", "\n", text, strings.Repeat("x", 1<<17)} {
			if expectParsed(t, text+more) || expectParsed(t, more+text) {
				t.Errorf("%q with %.20q is no text", text, more)
			}
		}
	}
}

func TestParseOfWhatIsNoText(t *testing.T) {
	for _, s := range []string{
		"", "_", "KERI", "KERI10", "KERI10JSON", "KERI10JSON0000fb", "KERI10JSON0000fb__", "KERI10JSON00000fb_", "KERI10JSON000fb_", "KERI10JSON_", strings.Repeat("_", 17), strings.Repeat("0", 17), strings.Repeat("A", 17), strings.Repeat("\x00", 17), strings.Repeat("\xff", 17),
		// protocols
		"KER10JSON0000fb_", "KERIS10JSON0000fb_", "keri10JSON0000fb_", "KERi10JSON0000fb_", "kERI10JSON0000fb_", "K3RI10JSON0000fb_", "KER_10JSON0000fb_", " KER10JSON0000fb_", "KER\u00c910JSON000fb_", "K\u00c9R10JSON0000fb_", "KE\xff\xff10JSON0000fb_", "\x00ERI10JSON0000fb_",
		// numbers
		"KERIg0JSON0000fb_", "KERI1gJSON0000fb_", "KERIA0JSON0000fb_", "KERI1FJSON0000fb_", "KERI-1JSON0000fb_", "KERI+1JSON0000fb_", "KERI1-JSON0000fb_", "KERI 1JSON0000fb_", "KERI1 JSON0000fb_", "KERI__JSON0000fb_", "KERI1.JSON0000fb_", "KERI0xJSON0000fb_",
		// forms
		"KERI10json0000fb_", "KERI10Json0000fb_", "KERI10JSOn0000fb_", "KERI10JSN 0000fb_", "KERI10PACK0000fb_", "KERI10MSGP0000fb_", "KERI10NONE0000fb_", "KERI10KERI0000fb_", "KERI10    0000fb_", "KERI10\x00\x00\x00\x000000fb_", "KERI10CESR0000fb_", "KERI10NOSJ0000fb_",
		// sizes
		"KERI10JSON0000FB_", "KERI10JSON0000fB_", "KERI10JSON0000Fb_", "KERI10JSONABCDEF_", "KERI10JSON0000fg_", "KERI10JSON+000fb_", "KERI10JSON-000fb_", "KERI10JSON-00001_", "KERI10JSON+00001_", "KERI10JSON    fb_", "KERI10JSONfb    _", "KERI10JSON0x00fb_", "KERI10JSON0X00FB_",
		"KERI10JSON00_0fb_", "KERI10JSON_000fb_", "KERI10JSON0000f__", "KERI10JSON______ ", "KERI10JSON00.0fb_", "KERI10JSON\x00\x00\x00\x00fb_", "KERI10JSON0000\xc3\xa9_", "KERI10JSON\uff100fb_", "KERI10JSON\uff10\uff10_",
		// endings
		"KERI10JSON0000fb-", "KERI10JSON0000fb.", "KERI10JSON0000fb ", "KERI10JSON0000fb\x00", "KERI10JSON0000fb\n", "KERI10JSON0000fb\xdf", "KERI10JSON0000fb0", "_KERI10JSON0000fb", "KERI10JSON0000f_b",
	} {
		if expectParsed(t, s) {
			t.Errorf("the definition takes %q", s)
		}
	}
	for _, protocol := range badProtocols() {
		expectParsed(t, protocol+"10JSON0000fb_")
	}
	for _, name := range names {
		for other := range 256 {
			for i := range 4 {
				expectParsed(t, "KERI10"+name[:i]+string([]byte{byte(other)})+name[i+1:]+"0000fb_")
			}
		}
	}
}

// P9.2

func TestFindAtEachPlace(t *testing.T) {
	for _, v := range []api.Version{sampleVersion, {Protocol: "ZZZZ", Major: 15, Minor: 15, Form: api.FormPack, Size: 1<<24 - 1}, {Protocol: "AAAA", Form: api.FormCBOR}} {
		text := textOf(v)
		for _, part := range []string{"x", "K", "A", "_", "0", "\x00", "\xff", "{", "\u00e9"} {
			for place := range 100 {
				before := strings.Repeat(part, place)[:place]
				for _, after := range []string{"", "x", "_", "0", "\xff", text, strings.Repeat("x", 100), strings.Repeat("x", 1<<17)} {
					if place <= 24 {
						expectFoundAt(t, before+text+after, v, place)
					} else {
						expectNotFound(t, before+text+after)
					}
				}
				// One that ends too early is none.
				for count := range 17 {
					expectNotFound(t, before+text[:count])
				}
			}
		}
	}
}

func TestFindOfSeveral(t *testing.T) {
	second := api.Version{Protocol: "ACDC", Major: 2, Minor: 11, Form: api.FormCBOR, Size: 0}
	for place := range 25 {
		start := strings.Repeat("x", place)
		for between := range 30 {
			expectFoundAt(t, start+sample+strings.Repeat("x", between)+textOf(second), sampleVersion, place)
			expectFoundAt(t, start+textOf(second)+strings.Repeat("x", between)+sample, second, place)
		}
		expectFoundAt(t, start+strings.Repeat(sample, 10), sampleVersion, place)
	}
	expectFoundAt(t, "{\"v\":\"KERI10JSON0000fb_\",\"t\":\"icp\"}", sampleVersion, 6)
	expectFoundAt(t, "\xa1av\x71KERI10JSON0000fb_", sampleVersion, 4)
	// The second is near enough, the first is none.
	expectFoundAt(t, "keri10JSON0000fb_ACDC2bCBOR000000_", second, 17)
	expectFoundAt(t, "KERI10JSON0000FB_xxxxxxxACDC2bCBOR000000_", second, 24)
	expectNotFound(t, "KERI10JSON0000FB_xxxxxxxxACDC2bCBOR000000_")
}

// What begins like a version must not hide the one that begins within it.
func TestFindOfTextsThatOverlap(t *testing.T) {
	named := func(protocol string, form int, size int) api.Version {
		return api.Version{Protocol: protocol, Major: 1, Form: form, Size: size}
	}
	for _, x := range []struct {
		s     string
		v     api.Version
		place int
	}{
		{"K" + sample, sampleVersion, 1},
		{"KERI" + sample, sampleVersion, 4},
		{"KERIKERIKERI" + sample, sampleVersion, 12},
		{"KERI10" + sample, sampleVersion, 6},
		{"KERI10JSON" + sample, sampleVersion, 10},
		{"KERI10JSON0" + sample, sampleVersion, 11},
		{"KERI10JSON0000fb" + sample, sampleVersion, 16},
		{"KERI10JSON0000f" + sample, sampleVersion, 15},
		{"_" + sample, sampleVersion, 1},
		{"KERI10JSON10CBOR000000_", named("JSON", api.FormCBOR, 0), 6},
		{"KERI10CBOR10JSON00000a_", named("CBOR", api.FormJSON, 10), 6},
		{"KERI10MGPK10MGPK10MGPK000001_", named("MGPK", api.FormPack, 1), 12},
		{"JSON10JSON10JSON10JSON10JSON10000f_", named("JSON", api.FormJSON, 0x10000f), 18},
		{"KERJSON10CBOR0000ff_", named("JSON", api.FormCBOR, 255), 3},
		{"ABCDEFGH10JSON000000_", named("EFGH", api.FormJSON, 0), 4},
		{"KERI10JSON0000fb" + "KERI10JSON0000fb_" + sample, sampleVersion, 16},
		{"KERI10JSON0000fB_KERI10JSON0000fb_", sampleVersion, 17},
	} {
		expectFoundAt(t, x.s, x.v, x.place)
		expectFoundAt(t, x.s+x.s, x.v, x.place)
		expectFound(t, "x"+x.s)
	}
	// Two texts laid over one another, both ways, at all places.
	found := 0
	texts := []string{sample, "ACDC2bCBOR000000_", "JSON10JSON10aaaa_", "MGPKffMGPKffffff_"}
	for _, a := range texts {
		for _, b := range texts {
			for i := range 30 {
				for j := range 30 {
					s := []byte(strings.Repeat("A", 50))
					copy(s[i:], a)
					copy(s[j:], b)
					if expectFound(t, string(s)) {
						found++
					}
					if expectFound(t, string(s)[:j+17]) {
						found++
					}
				}
			}
		}
	}
	if found < 10000 {
		t.Error("found:", found)
	}
}

func TestFindInChangedStrings(t *testing.T) {
	s := "{\"v\":\"" + sample + "\",\"w\":\"ACDC2bCBOR000000_\"}"
	for i := range len(s) {
		for c := range 256 {
			expectFound(t, s[:i]+string([]byte{byte(c)})+s[i+1:])
			expectFound(t, s[:i]+string([]byte{byte(c)})+s[i:])
		}
		expectFound(t, s[:i])
		expectFound(t, s[i:])
		expectFound(t, s[:i]+s[i+1:])
	}
}

func TestFindOfNone(t *testing.T) {
	for _, s := range []string{"", "x", "_", "KERI", sample[:16], sample[1:], "x" + sample[1:], "keri10JSON0000fb_", "KERI10JSON0000FB_", "KERI 10JSON0000fb_", "KERI10 JSON0000fb_"} {
		expectNotFound(t, s)
		expectNotFound(t, s+s[:len(s)/2])
		expectNotFound(t, strings.Repeat("x", 24)+s)
	}
	for _, part := range []string{"x", "A", "0", "_", "\x00", "\xff", "KERI", "KERI10", "KERI10JSON", "KERI10JSON0000fb", "KERI10JSON0000fB_"} {
		for _, bytes := range []int{17, 40, 41, 42, api.MaxBytes, api.MaxBytes + 1, 1 << 20} {
			expectNotFound(t, strings.Repeat(part, bytes/len(part)+1))
		}
	}
	expectNotFound(t, strings.Repeat("x", 25)+sample)
	expectNotFound(t, strings.Repeat("x", 1<<20)+sample)
}

// P9.3: nodes

var (
	null = api.Node{}
	yes  = api.Node{Kind: api.NodeBool, Bool: true}
)

func list(items ...api.Node) api.Node { return node.List(items) }

// numbered returns the map of n0, n1 and so on.
func numbered(items ...api.Node) api.Node {
	var names []string
	for i := range items {
		names = append(names, fmt.Sprint("n", i))
	}
	return node.Map(names, items)
}

// named returns the map that has these items; the names are in one string, with
// a comma between them.
func named(names string, items ...api.Node) api.Node {
	return node.Map(strings.Split(names, ","), items)
}

func plain(count int) string { return strings.Repeat("p", count) }

func nulls(count int) []api.Node { return make([]api.Node, count) }

// inMaps returns n within so many maps of one item with this name.
func inMaps(n api.Node, name string, levels int) api.Node {
	for range levels {
		n = named(name, n)
	}
	return n
}

// withItem returns a map with one more item at a place.
func withItem(n api.Node, place int, name string, item api.Node) api.Node {
	return node.Map(slices.Insert(slices.Clone(n.Names), place, name), slices.Insert(slices.Clone(n.Items), place, item))
}

// values are items of each kind, also such as look like versions.
func values() []api.Node {
	return []api.Node{
		null, {Kind: api.NodeBool}, yes, node.Number(0), node.Number(-7), node.Number(math.MaxInt), node.Text(""), node.Text("x"), node.Text("\u00e9\n\""), node.Text(sample), node.Text("ACDC00CBOR000000_"),
		node.Text(plain(300)), list(), list(node.Text(sample), null), numbered(), numbered(yes), named("v", node.Text(sample)), named("a,v", null, list(yes)),
	}
}

// maps are valid ones without an item v.
func maps() []api.Node {
	l := []api.Node{
		numbered(), named("", null), named("a", node.Text("x")), named("b,a,", null, yes, list()), named("V", null), named("vv", null), named("v ,V, v,w,u", null, null, yes, null, null), named("\u0475", null),
		named(sample, node.Text(sample)), named("x"+sample, null), named("KERI", node.Text("KERI")), inMaps(null, "a", 7), named("a", inMaps(null, "v", 6)), numbered(values()...), named("a", named("v", null)), named("a,b", list(named("v,b", yes, null)), named("b,v", null, yes)),
		named(plain(1000), node.Text(plain(1000))), named("a", numbered(nulls(api.MaxItems)...)),
	}
	for _, item := range values() {
		l = append(l, named("item", item), named("u,w", item, null))
	}
	for _, count := range []int{2, 14, 15, 16, 17, 22, 23, 24, 25, 31, 32, 100, 254, 255} {
		l = append(l, numbered(nulls(count)...))
	}
	return l
}

// broken are nodes that are no valid maps.
func broken() []api.Node {
	l := []api.Node{
		null, yes, {Kind: api.NodeBool}, node.Number(1), node.Text("x"), node.Text(sample), list(), list(named("v", null)), list(node.Text("v"), node.Text(sample)),
		{Kind: -1}, {Kind: 6}, {Kind: math.MaxInt}, {Kind: api.NodeList, Names: []string{"v"}, Items: nulls(1)}, {Names: []string{"a"}, Items: nulls(1)},
		{Kind: api.NodeMap, Bool: true}, {Kind: api.NodeMap, Number: 1}, {Kind: api.NodeMap, Text: "t"}, {Kind: 6, Names: []string{"a"}, Items: nulls(1)},
		{Kind: api.NodeMap, Names: []string{"a"}}, {Kind: api.NodeMap, Names: []string{"v"}}, {Kind: api.NodeMap, Items: nulls(1)}, {Kind: api.NodeMap, Names: []string{"a", "v"}, Items: nulls(1)}, {Kind: api.NodeMap, Names: []string{"a"}, Items: nulls(2)},
		named("a,a", null, null), named("v,v", null, null), named("v,a,v", null, null, null), named("\xff", null), named("a", node.Text("\xff")), named("v", node.Text("\xff")), named("v\xff", null),
		named("a", api.Node{Kind: 6}), named("v", api.Node{Kind: 6}), named("v", api.Node{Text: "x"}), named("v,a", node.Text(sample), api.Node{Number: 1}),
		numbered(nulls(api.MaxItems + 1)...), named("a", list(nulls(api.MaxItems+1)...)), named("v", list(nulls(api.MaxItems+1)...)), withItem(numbered(nulls(api.MaxItems)...), 9, "v", null),
		inMaps(null, "a", api.MaxDepth), inMaps(null, "v", api.MaxDepth), inMaps(numbered(), "b", api.MaxDepth), inMaps(null, "a", 500), named("v,a", yes, inMaps(null, "a", api.MaxDepth-1)),
		named("a", node.Text(plain(api.MaxBytes+1))), named("v", node.Text(plain(api.MaxBytes+1))), named(plain(api.MaxBytes+1), null),
	}
	// A map that contains itself is nested too deeply.
	items := nulls(1)
	items[0] = api.Node{Kind: api.NodeMap, Names: []string{"v"}, Items: items}
	return append(l, items[0])
}

// P9.3: Fit

func TestFitAsTheChapterHasIt(t *testing.T) {
	for _, x := range []struct {
		n    api.Node
		form int
		want string
	}{
		{numbered(), api.FormJSON, `{"v":"KERI10JSON000019_"}`},
		{numbered(), api.FormCBOR, "\xa1\x61v\x71KERI10CBOR000015_"},
		{numbered(), api.FormPack, "\x81\xa1v\xb1KERI10MGPK000015_"},
		{named("a", node.Text("x")), api.FormJSON, `{"v":"KERI10JSON000021_","a":"x"}`},
		{named("a", node.Text("x")), api.FormCBOR, "\xa2\x61v\x71KERI10CBOR000019_\x61a\x61x"},
		{named("a", node.Text("x")), api.FormPack, "\x82\xa1v\xb1KERI10MGPK000019_\xa1a\xa1x"},
		{named("v", null), api.FormJSON, `{"v":"KERI10JSON000019_"}`},
		{named("a,v,b", yes, node.Text("ACDC00CBORffffff_"), null), api.FormJSON, `{"v":"KERI10JSON00002b_","a":true,"b":null}`},
		{named("a,v,b", yes, list(null, null), null), api.FormCBOR, "\xa3\x61v\x71KERI10CBOR00001b_\x61a\xf5\x61b\xf6"},
		{named("b,a,v", yes, null, node.Number(1)), api.FormPack, "\x83\xa1v\xb1KERI10MGPK00001b_\xa1b\xc3\xa1a\xc0"},
		{named("a", node.Text(plain(300))), api.FormJSON, `{"v":"KERI10JSON00014c_","a":"` + plain(300) + `"}`},
	} {
		fitted, text, e := version.Fit(x.n, "KERI", x.form)
		if e != api.OK || text != x.want || fitted.Names[0] != "v" {
			t.Errorf("Fit in %d: %q, error %d; want %q", x.form, text, e, x.want)
		}
		expectFit(t, x.n, "KERI", x.form)
	}
}

func TestFitOfMaps(t *testing.T) {
	for i, n := range maps() {
		for _, form := range forms {
			expectFit(t, n, "KERI", form)
			expectFit(t, n, protocols[i%len(protocols)], form)
		}
	}
}

// The item v may be any one, at any place.
func TestFitOfMapsWithAVersion(t *testing.T) {
	for i, n := range maps() {
		for _, form := range forms {
			want, wantText, _ := version.Fit(n, "ACDC", form)
			for _, place := range []int{0, len(n.Items) / 2, len(n.Items)} {
				for _, item := range []api.Node{node.Text(sample), node.Text("ACDC" + sample), values()[(i+place)%len(values())]} {
					with := withItem(n, place, "v", item)
					expectFit(t, with, "ACDC", form)
					if got, text, e := version.Fit(with, "ACDC", form); e != api.OK || text != wantText || !node.Same(got, want) {
						t.Errorf("Fit of %d items and v at %d in %d: %.50q, error %d; want %.50q", len(n.Items), place, form, text, e, wantText)
					}
				}
			}
			for _, other := range forms {
				again, text, e := version.Fit(want, "KERI", other)
				twice, textOfTwice, secondError := version.Fit(again, "ACDC", form)
				if e != api.OK || text == wantText || secondError != api.OK || textOfTwice != wantText || !node.Same(twice, want) {
					t.Errorf("Fit of what Fit gave, %d items, in %d and %d: errors %d, %d", len(n.Items), other, form, e, secondError)
				}
			}
		}
	}
	for _, item := range values() {
		for _, form := range forms {
			expectFit(t, named("v", item), "KERI", form)
			expectFit(t, named("v,a", item, item), "KERI", form)
			expectFit(t, named("a,v", item, item), "KERI", form)
			expectFit(t, named("a,b,v,c", item, null, item, item), "KERI", form)
		}
	}
}

func TestFitOfProtocols(t *testing.T) {
	for _, n := range []api.Node{numbered(), named("a,v", yes, yes)} {
		for _, form := range forms {
			for _, protocol := range protocols {
				expectFit(t, n, protocol, form)
			}
			for letter := 'A'; letter <= 'Z'; letter++ {
				expectFit(t, n, "Q"+string(letter)+"QQ", form)
			}
		}
	}
}

// nil and empty lists mean the same.
func TestFitOfEmptyLists(t *testing.T) {
	for _, form := range forms {
		_, want, _ := version.Fit(numbered(), "KERI", form)
		for _, n := range []api.Node{{Kind: api.NodeMap, Names: []string{}, Items: []api.Node{}}, {Kind: api.NodeMap, Names: make([]string, 0, 3)}, {Kind: api.NodeMap, Items: make([]api.Node, 0, 3)}} {
			if _, text, e := version.Fit(n, "KERI", form); e != api.OK || text != want {
				t.Errorf("Fit of an empty map: %q, error %d; want %q", text, e, want)
			}
		}
	}
}

func TestFitOfAllSizes(t *testing.T) {
	for _, form := range forms {
		for count := range 400 {
			expectFit(t, named("a", node.Text(plain(count))), "KERI", form)
			expectFit(t, named("v,"+plain(count)+"a", null, yes), "KERI", form)
		}
		for _, count := range []int{4000, 4096, 32767, 32768, 65000, 65400} {
			expectFit(t, named("a", node.Text(plain(count))), "KERI", form)
		}
	}
}

func TestLimitOfItems(t *testing.T) {
	for _, form := range forms {
		for count := range api.MaxItems + 3 {
			n := numbered(nulls(count)...)
			if count < api.MaxItems {
				expectFit(t, n, "KERI", form)
				expectFit(t, withItem(n, count, "v", yes), "KERI", form)
				expectFit(t, withItem(n, count/2, "v", yes), "KERI", form)
				expectFit(t, withItem(n, 0, "v", yes), "KERI", form)
				continue
			}
			// A map of MaxItems items is valid, but not with one more.
			expectNoFit(t, n, "KERI", form, api.ErrInvalid)
			expectNoFit(t, withItem(n, count, "v", yes), "KERI", form, api.ErrInvalid)
			expectNoFit(t, withItem(n, 0, "v", yes), "KERI", form, api.ErrInvalid)
		}
	}
}

func TestLimitOfDepth(t *testing.T) {
	for _, form := range forms {
		for _, leaf := range []api.Node{null, node.Text(sample), list(), numbered()} {
			for levels := 1; levels < 2*api.MaxDepth; levels++ {
				for _, n := range []api.Node{inMaps(leaf, "a", levels), inMaps(leaf, "v", levels), named("a,v", null, inMaps(leaf, "b", levels-1)), named("v,a", null, inMaps(leaf, "v", levels-1))} {
					// An item v that is nested too deeply is taken out, but makes the map invalid.
					if levels < api.MaxDepth {
						expectFit(t, n, "KERI", form)
					} else {
						expectNoFit(t, n, "KERI", form, api.ErrInvalid)
					}
				}
			}
		}
	}
}

// filled returns valid maps whose bytes, as Fit gives them, are so many.
func filled(t *testing.T, bytes, form int) []api.Node {
	var l []api.Node
	for _, around := range []func(s string) api.Node{
		func(s string) api.Node { return named("a", node.Text(s)) },
		func(s string) api.Node { return named(s, null) },
		func(s string) api.Node { return named("b,v,a", null, node.Text(plain(1000)), node.Text(s)) },
		func(s string) api.Node { return named("v,a", null, list(yes, node.Text(s))) },
		func(s string) api.Node {
			return withItem(numbered(slices.Repeat([]api.Node{node.Text(plain(200))}, 255)...), 100, "v", node.Text(s))
		},
		func(s string) api.Node {
			return withItem(numbered(slices.Repeat([]api.Node{node.Text(plain(200))}, 254)...), 100, "a", node.Text(s))
		},
	} {
		// 300 characters have as long a head as all that fit into the limit.
		_, text := fittedOf(t, around(plain(300)), "KERI", form)
		if more := bytes - len(text) + 300; more > 0 {
			l = append(l, around(plain(more)))
		}
	}
	return l
}

func TestLimitOfBytes(t *testing.T) {
	for _, form := range forms {
		for _, bytes := range []int{api.MaxBytes - 2, api.MaxBytes - 1, api.MaxBytes, api.MaxBytes + 1, api.MaxBytes + 2} {
			for i, n := range filled(t, bytes, form) {
				// The text of the fifth is in the item v, which is taken out.
				if bytes <= api.MaxBytes || i == 4 {
					expectFit(t, n, "KERI", form)
				} else {
					expectNoFit(t, n, "KERI", form, api.ErrLimit)
				}
				_, text, _ := version.Fit(n, "KERI", form)
				if i != 4 && bytes <= api.MaxBytes && len(text) != bytes {
					t.Errorf("Fit of map %d in %d has %d bytes; want %d", i, form, len(text), bytes)
				}
			}
		}
		long := node.Text(plain(api.MaxBytes))
		expectFit(t, named("v", long), "KERI", form)
		expectFit(t, named("a,v", yes, list(long, long)), "KERI", form)
		expectNoFit(t, named("a", long), "KERI", form, api.ErrLimit)
		expectNoFit(t, named("v,a,b", null, long, long), "KERI", form, api.ErrLimit)
		expectNoFit(t, named(long.Text, null), "KERI", form, api.ErrLimit)
	}
}

// A valid map may be far longer than the limit.
func TestFitOfVeryLongMaps(t *testing.T) {
	row := list(slices.Repeat([]api.Node{node.Text(plain(4000))}, api.MaxItems)...)
	rows := list(slices.Repeat([]api.Node{row}, api.MaxItems)...)
	for _, form := range forms {
		expectNoFit(t, named("a", rows), "KERI", form, api.ErrLimit)
		expectNoFit(t, named("v,a", yes, rows), "KERI", form, api.ErrLimit)
		expectFit(t, named("a,v", yes, rows), "KERI", form)
	}
}

func TestFitOfWhatIsNoValidMap(t *testing.T) {
	for _, n := range broken() {
		for _, form := range forms {
			expectNoFit(t, n, "KERI", form, api.ErrInvalid)
			expectNoFit(t, n, "ACDC", form, api.ErrInvalid)
		}
	}
}

func TestOrderOfTheErrorsOfFit(t *testing.T) {
	long := node.Text(plain(api.MaxBytes))
	tooLong := named("a", long)
	nodes := append(broken(), numbered(), named("v", null), tooLong, numbered(nulls(api.MaxItems)...))
	for _, n := range nodes {
		for i, protocol := range badProtocols() {
			if i < 50 || i%40 == 0 {
				expectNoFit(t, n, protocol, forms[i%3], api.ErrRange)
				expectNoFit(t, n, protocol, 0, api.ErrRange)
			}
		}
		for _, form := range noForms() {
			expectNoFit(t, n, "KERI", form, api.ErrRange)
		}
	}
	for _, form := range forms {
		expectNoFit(t, numbered(slices.Repeat([]api.Node{long}, api.MaxItems)...), "KERI", form, api.ErrInvalid)
		expectNoFit(t, named("a,b,c", long, long, api.Node{Kind: 6}), "KERI", form, api.ErrInvalid)
		expectNoFit(t, named("a,v", long, api.Node{Kind: 6}), "KERI", form, api.ErrInvalid)
		expectNoFit(t, list(long, long), "KERI", form, api.ErrInvalid)
		expectNoFit(t, long, "KERI", form, api.ErrInvalid)
	}
	for _, protocol := range badProtocols() {
		expectNoFit(t, numbered(), protocol, api.FormJSON, api.ErrRange)
	}
}

// Rule 1

// roomy returns a copy of n with more memory behind its names and items, also
// within the items, and a function that tells whether all of it is as it was.
func roomy(n api.Node) (api.Node, func() bool) {
	var unchanged []func() bool
	names := append(slices.Clone(n.Names), "behind", "behind that")
	items := append(slices.Clone(n.Items), node.Text("behind"), yes)
	for i, item := range n.Items {
		copied, asItWas := roomy(item)
		items[i] = copied
		unchanged = append(unchanged, asItWas)
	}
	beforeNames, beforeItems := slices.Clone(names), slices.Clone(items)
	n.Names, n.Items = names[:len(n.Names)], items[:len(n.Items)]
	return n, func() bool {
		for _, asItWas := range unchanged {
			if !asItWas() {
				return false
			}
		}
		return slices.Equal(names, beforeNames) && slices.EqualFunc(items, beforeItems, node.Same)
	}
}

// overwrite writes into all memory that n has, also behind its items.
func overwrite(n api.Node) {
	for _, item := range n.Items[:cap(n.Items)] {
		overwrite(item)
	}
	for i := range cap(n.Items) {
		n.Items[:cap(n.Items)][i] = node.Text("overwritten")
	}
	for i := range cap(n.Names) {
		n.Names[:cap(n.Names)][i] = "overwritten"
	}
}

func TestArgumentsAndResultsShareNoMemory(t *testing.T) {
	tested := maps()
	for _, n := range maps() {
		tested = append(tested, withItem(n, 0, "v", node.Text(sample)), withItem(n, len(n.Items), "v", list(null)))
	}
	for _, n := range tested {
		given, asItWas := roomy(n)
		for _, form := range forms {
			first, _, _ := version.Fit(given, "KERI", form)
			if !asItWas() {
				t.Errorf("Fit changes a map of %d items", len(n.Items))
			}
			want, _ := fittedOf(t, n, "KERI", form)
			second, _, _ := version.Fit(given, "KERI", form)
			overwrite(first)
			if !asItWas() || !node.Same(second, want) {
				t.Errorf("the result of Fit of %d items shares memory with the argument, or with another one", len(n.Items))
			}
			for i, item := range second.Items {
				overwrite(item)
				if !slices.EqualFunc(second.Items[i+1:], want.Items[i+1:], node.Same) || !slices.Equal(second.Names, want.Names) {
					t.Errorf("items of the result of Fit of %d items share memory", len(n.Items))
				}
			}
		}
	}
	for _, n := range broken()[:len(broken())-1] {
		given, asItWas := roomy(n)
		for _, form := range append(noForms(), forms...) {
			version.Fit(given, "KERI", form)
		}
		if !asItWas() {
			t.Errorf("Fit changes a node of kind %d with %d items", n.Kind, len(n.Items))
		}
	}
}

// All of them, with many strings

// fromBytes makes a node of bytes, mostly a valid one, often with names v.
func fromBytes(b []byte, levels int) (n api.Node, rest []byte) {
	if len(b) < 3 {
		return null, nil
	}
	choice, size, rest := b[0], int(b[1])%6, b[2:]
	switch choice % 8 {
	case 0:
		return api.Node{Kind: int(choice) / 8 % 7, Bool: choice > 250}, rest
	case 1:
		return node.Number((int(b[1]) - 128) << (choice / 4)), rest
	case 2:
		size = min(int(b[1])%40, len(rest))
		return node.Text(strings.ToValidUTF8(string(rest[:size]), sample)), rest[size:]
	}
	n.Kind = api.NodeList
	if levels == api.MaxDepth || choice > 80 {
		n.Kind = api.NodeMap
	}
	for i := range size {
		if levels == 0 {
			break
		}
		var item api.Node
		item, rest = fromBytes(rest, levels-1)
		n.Items = append(n.Items, item)
		if n.Kind == api.NodeMap {
			n.Names = append(n.Names, strings.Repeat("v", (i+int(choice))%7))
		}
	}
	return n, rest
}

// expectAll checks all promises of a node, a string, and some numbers.
func expectAll(t *testing.T, n api.Node, s string, number int) {
	t.Helper()
	form := 1 + number%3
	if n.Kind == api.NodeMap && node.Valid(n) {
		expectFit(t, n, "KERI", form)
	} else {
		expectNoFit(t, n, "KERI", form, api.ErrInvalid)
	}
	expectParsed(t, s)
	expectFound(t, s)
	place := min(number%30, len(s))
	expectFound(t, s[:place]+sample+s[place:])
	v := api.Version{Protocol: s[:min(4, len(s))], Major: number % 17, Minor: number / 17 % 17, Form: number % 4, Size: number}
	for _, v := range []api.Version{v, {Protocol: "KERI", Major: v.Major, Minor: v.Minor, Form: v.Form, Size: v.Size}} {
		if isValid(v) {
			expectText(t, v)
		} else {
			expectNoText(t, v)
		}
	}
}

func TestManyBytes(t *testing.T) {
	state := uint32(9)
	valid := 0
	for range 20000 {
		b := make([]byte, 120)
		for i := range b {
			state = state*1664525 + 1013904223
			b[i] = byte(state >> 24)
		}
		n, _ := fromBytes(b, api.MaxDepth)
		if n.Kind == api.NodeMap && node.Valid(n) && len(n.Items) > 1 {
			valid++
		}
		text := make([]byte, 17+state>>20%30)
		for i := range text {
			text[i] = "KERIJSONCBORMGPK0123456789abcdef_"[int(b[i])%33]
		}
		expectAll(t, n, string(text), int(state>>7))
	}
	if valid < 2000 {
		t.Error("valid maps with items:", valid)
	}
}

// FuzzAll looks for nodes and strings that break a promise.
func FuzzAll(f *testing.F) {
	for i, v := range versions() {
		if i%20 == 0 {
			f.Add(textOf(v), v.Size)
			f.Add("{\"v\":\""+textOf(v)+"\"}", i)
		}
	}
	for _, n := range maps() {
		if _, text, _ := version.Fit(n, "KERI", api.FormCBOR); len(text) < 1000 {
			f.Add(text, len(text))
		}
	}
	f.Fuzz(func(t *testing.T, s string, number int) {
		if len(s) > 1<<12 {
			return
		}
		n, _ := fromBytes([]byte(s), api.MaxDepth)
		expectAll(t, n, s, number&math.MaxInt)
	})
}
