package stream

import (
	"math"
	"slices"
	"strings"
	"testing"

	"keyevent/api"
	"keyevent/primitive"
)

// kind is a row of the chapter's definitions. It is written out, so that no
// test rests on the table of the package.
type kind struct {
	kind    int
	letter  string
	pattern []int
}

var kinds = []kind{
	{api.GroupSigs, "A", []int{api.CodeSignature}},
	{api.GroupReceipts, "B", []int{api.CodeSignature}},
	{api.GroupCouples, "C", []int{api.CodeWitness, api.CodeSignature}},
	{api.GroupSeals, "G", []int{api.CodeLong, api.CodeDigest}},
}

// raws has the number of raw bytes of each code.
var raws = map[int]int{
	api.CodeDigest: 32, api.CodeKey: 32, api.CodeWitness: 32, api.CodeSeed: 32,
	api.CodeSalt: 16, api.CodeNumber: 2, api.CodeSignature: 626, api.CodeLong: 6,
}

const (
	digits       = "ABCDEFGHIJKLMNOPQRSTUVWXYZ" + "abcdefghijklmnopqrstuvwxyz" + "0123456789" + "-" + "_"
	maxCount     = 4095
	sigSize      = 836 // of the text of a signature
	sigsInBinary = 156 // signatures of one group of which base64 decodes the text
)

// noKinds are numbers that are no kind of group.
var noKinds = []int{0, -1, -2, -4, 5, 6, 7, 9, 64, 255, 256, 257, 1<<32 + 1, math.MaxInt, math.MinInt}

// item returns a primitive; with another salt its raw bytes are others.
func item(code, salt int) api.Primitive {
	raw := make([]byte, raws[code])
	for i := range raw {
		raw[i] = byte(i*i*13 + i>>2 + 91*salt + code)
	}
	return api.Primitive{Code: code, Raw: string(raw)}
}

// group returns a group in which the pattern of k occurs count times.
func group(k kind, count int) api.Group {
	g := api.Group{Kind: k.kind}
	for i := range count {
		for _, code := range k.pattern {
			g.Items = append(g.Items, item(code, i))
		}
	}
	return g
}

// written returns the texts of primitives.
func written(l ...api.Primitive) string {
	text := ""
	for _, p := range l {
		text += primitive.Make(p.Code, p.Raw)
	}
	return text
}

// mark returns the mark of a group.
func mark(k kind, count int) string {
	return "-" + k.letter + digits[count/64:count/64+1] + digits[count%64:count%64+1]
}

// standard returns the text of group(k, count).
func standard(k kind, count int) string {
	var text strings.Builder
	text.WriteString(mark(k, count))
	for _, p := range group(k, count).Items {
		text.WriteString(written(p))
	}
	return text.String()
}

// same reports whether two lists have the same groups.
func same(a, b []api.Group) bool {
	return slices.EqualFunc(a, b, func(x, y api.Group) bool {
		return x.Kind == y.Kind && slices.Equal(x.Items, y.Items)
	})
}

// copied returns a copy of groups that shares no memory with them.
func copied(l []api.Group) []api.Group {
	var out []api.Group
	for _, g := range l {
		out = append(out, api.Group{Kind: g.Kind, Items: slices.Clone(g.Items)})
	}
	return out
}

func checkMark(t *testing.T, kind, count int, want string, wantErr api.Errno) {
	t.Helper()
	if text, e := Mark(kind, count); text != want || e != wantErr {
		t.Errorf("Mark(%d, %d): %q, %d; want %q, %d", kind, count, text, e, want, wantErr)
	}
}

// checkEncode checks Encode, and that it leaves its argument as it is.
func checkEncode(t *testing.T, l []api.Group, want string, wantErr api.Errno) {
	t.Helper()
	before := copied(l)
	if text, e := Encode(l); text != want || e != wantErr {
		t.Errorf("Encode of %d groups: %d characters %.24q, %d; want %d characters %.24q, %d", len(l), len(text), text, e, len(want), want, wantErr)
	}
	if !same(l, before) {
		t.Errorf("Encode changes its argument, %d groups", len(l))
	}
	if wantErr == api.OK {
		return
	}
	if b, e := Binary(l); b != "" || e != wantErr {
		t.Errorf("Binary of %d groups: %d bytes %.24q, %d; want %d alone", len(l), len(b), b, e, wantErr)
	}
}

func checkDecode(t *testing.T, text string, want []api.Group) {
	t.Helper()
	if l, e := Decode(text); !same(l, want) || e != api.OK {
		t.Errorf("Decode of %d characters %.24q: %d groups, %d; want %d groups", len(text), text, len(l), e, len(want))
	}
}

// checkDecodeError checks that there is an error and no groups, also for the
// binary form, if there is one that FromBinary takes.
func checkDecodeError(t *testing.T, text string, want api.Errno) {
	t.Helper()
	if l, e := Decode(text); len(l) != 0 || e != want {
		t.Errorf("Decode of %d characters %.24q: %d groups, %d; want %d alone", len(text), text, len(l), e, want)
	}
	b, e := primitive.Binary(text)
	if e != api.OK || len(b) > api.MaxBytes {
		return
	}
	if l, e := FromBinary(b); len(l) != 0 || e != want {
		t.Errorf("FromBinary of %d bytes, of %.24q: %d groups, %d; want %d alone", len(b), text, len(l), e, want)
	}
}

// checkBoth checks that groups have a text, and come back from it.
func checkBoth(t *testing.T, l []api.Group, text string) {
	t.Helper()
	checkEncode(t, l, text, api.OK)
	checkDecode(t, text, l)
}

// checkBinary checks that groups have the binary form of a text, and come back
// from it.
func checkBinary(t *testing.T, l []api.Group, text string) {
	t.Helper()
	want, e := primitive.Binary(text)
	if e != api.OK || len(want) != len(text)/4*3 {
		t.Fatalf("%d characters %.24q have no binary form: %d", len(text), text, e)
	}
	b, e := Binary(l)
	if b != want || e != api.OK {
		t.Errorf("Binary of %d groups: %d bytes, %d; want %d bytes", len(l), len(b), e, len(want))
	}
	if again, e := FromBinary(want); !same(again, l) || e != api.OK {
		t.Errorf("FromBinary of %d bytes: %d groups, %d; want %d groups", len(want), len(again), e, len(l))
	}
}

// replaced returns text with another character in one place.
func replaced(text string, place int, c byte) string {
	return text[:place] + string([]byte{c}) + text[place+1:]
}

// P4.1

func TestKnownMarks(t *testing.T) {
	for _, x := range []struct {
		kind, count int
		text        string
	}{
		{api.GroupSigs, 0, "-AAA"},
		{api.GroupSigs, 1, "-AAB"},
		{api.GroupReceipts, 63, "-BA_"},
		{api.GroupReceipts, 64, "-BBA"},
		{api.GroupCouples, 512, "-CIA"},
		{api.GroupCouples, 1024, "-CQA"},
		{api.GroupSeals, 4094, "-G_-"},
		{api.GroupSeals, 4095, "-G__"},
	} {
		checkMark(t, x.kind, x.count, x.text, api.OK)
	}
}

func TestAllMarks(t *testing.T) {
	for _, k := range kinds {
		for count := range maxCount + 1 {
			checkMark(t, k.kind, count, mark(k, count), api.OK)
		}
	}
}

func TestMarkOfCountsOutOfRange(t *testing.T) {
	for _, k := range kinds {
		for _, count := range []int{-1, -2, -64, -4096, maxCount + 1, maxCount + 2, 2 * maxCount, 1 << 18, 1<<32 + 1, math.MaxInt, math.MinInt} {
			checkMark(t, k.kind, count, "", api.ErrRange)
		}
	}
}

func TestMarkOfNoKind(t *testing.T) {
	for _, kind := range noKinds {
		for _, count := range []int{-1, 0, 1, 64, maxCount, maxCount + 1} {
			checkMark(t, kind, count, "", api.ErrRange)
		}
	}
}

func TestPermittedCodes(t *testing.T) {
	for _, k := range kinds {
		for range 2 {
			l := Permitted(k.kind)
			if !slices.Equal(l, k.pattern) {
				t.Errorf("Permitted(%d): %v; want %v", k.kind, l, k.pattern)
			}
			// What a caller does with a result concerns no other call.
			clear(l)
			_ = append(l[:0], -1, -1)
		}
		checkEncode(t, []api.Group{group(k, 2)}, standard(k, 2), api.OK)
	}
}

func TestPermittedOfNoKind(t *testing.T) {
	for _, kind := range noKinds {
		if l := Permitted(kind); len(l) != 0 {
			t.Errorf("Permitted(%d): %v", kind, l)
		}
	}
	found := 0
	for kind := -300; kind <= 300; kind++ {
		_, e := Mark(kind, 0)
		if (e == api.OK) != (len(Permitted(kind)) > 0) {
			t.Errorf("kind %d: Mark %d, Permitted %v", kind, e, Permitted(kind))
		}
		if e == api.OK {
			found++
		}
	}
	if found != len(kinds) {
		t.Error("kinds:", found)
	}
}

// P4.2: groups and their texts

func TestKnownTexts(t *testing.T) {
	zeros := func(code int) api.Primitive {
		return api.Primitive{Code: code, Raw: strings.Repeat("\x00", raws[code])}
	}
	sig, witness := "S"+strings.Repeat("A", 835), "B"+strings.Repeat("A", 43)
	number, digest := "1AALAAAAAAAA", "E"+strings.Repeat("A", 43)
	s, w := zeros(api.CodeSignature), zeros(api.CodeWitness)
	n, d := zeros(api.CodeLong), zeros(api.CodeDigest)
	for _, x := range []struct {
		l    []api.Group
		text string
	}{
		{nil, ""},
		{[]api.Group{}, ""},
		{[]api.Group{{Kind: api.GroupSigs}}, "-AAA"},
		{[]api.Group{{Kind: api.GroupReceipts, Items: []api.Primitive{}}}, "-BAA"},
		{[]api.Group{{Kind: api.GroupCouples}, {Kind: api.GroupSeals}, {Kind: api.GroupCouples}}, "-CAA-GAA-CAA"},
		{[]api.Group{{Kind: api.GroupSigs, Items: []api.Primitive{s}}}, "-AAB" + sig},
		{[]api.Group{{Kind: api.GroupReceipts, Items: []api.Primitive{s, s, s}}}, "-BAD" + sig + sig + sig},
		{[]api.Group{{Kind: api.GroupCouples, Items: []api.Primitive{w, s}}}, "-CAB" + witness + sig},
		{[]api.Group{{Kind: api.GroupSeals, Items: []api.Primitive{n, d, n, d}}}, "-GAC" + number + digest + number + digest},
	} {
		checkBoth(t, x.l, x.text)
		checkBinary(t, x.l, x.text)
	}
}

func TestGroupsOfEachKind(t *testing.T) {
	for _, k := range kinds {
		for _, count := range []int{0, 1, 2, 3, 7, 63, 64, 65} {
			l := []api.Group{group(k, count)}
			checkBoth(t, l, standard(k, count))
			checkBinary(t, l, standard(k, count))
		}
	}
}

func TestGroupsOneAfterTheOther(t *testing.T) {
	for _, a := range kinds {
		for _, b := range kinds {
			for _, counts := range [][3]int{{0, 0, 0}, {0, 1, 0}, {1, 0, 2}, {2, 3, 1}} {
				l := []api.Group{group(a, counts[0]), group(b, counts[1]), group(a, counts[2])}
				text := standard(a, counts[0]) + standard(b, counts[1]) + standard(a, counts[2])
				checkBoth(t, l, text)
				checkBinary(t, l, text)
			}
		}
	}
}

func TestDecodedGroupsShareNoMemory(t *testing.T) {
	text := ""
	var want []api.Group
	for _, k := range kinds {
		text += standard(k, 3) + standard(k, 1)
		want = append(want, group(k, 3), group(k, 1))
	}
	l, e := Decode(text)
	if e != api.OK {
		t.Fatal("Decode:", e)
	}
	for i := range l {
		_ = append(l[i].Items, item(api.CodeSeed, i))
		if !same(l, want) {
			t.Fatalf("appending to the group %d changes another one", i)
		}
	}
	clear(l[0].Items)
	if !same(l[1:], want[1:]) {
		t.Error("clearing a group changes another one")
	}
	checkDecode(t, text, want)
}

// What lies beyond the length of a slice is neither read nor changed.
func TestEncodeLeavesWhatLiesBeyondTheLength(t *testing.T) {
	for _, k := range kinds {
		whole := append(group(k, 3).Items, item(api.CodeSeed, 0), api.Primitive{Code: 9})
		before := slices.Clone(whole)
		l := []api.Group{{Kind: k.kind, Items: whole[:2*len(k.pattern)]}, {Kind: -1, Items: whole}}
		checkEncode(t, l[:1], standard(k, 2), api.OK)
		if !slices.Equal(whole, before) || l[1].Kind != -1 {
			t.Errorf("Encode of kind %d changes what lies beyond", k.kind)
		}
	}
}

// P4.2: MaxPrimitive

func TestGreatestGroups(t *testing.T) {
	for _, k := range kinds {
		count := api.MaxPrimitive / len(k.pattern)
		checkBoth(t, []api.Group{group(k, count)}, standard(k, count))
		// The limit is one of all groups, and groups without items have none.
		l := []api.Group{group(k, 0), group(k, count-1), group(k, 0), group(k, 1), group(k, 0)}
		text := standard(k, 0) + standard(k, count-1) + standard(k, 0) + standard(k, 1) + standard(k, 0)
		checkBoth(t, l, text)
	}
}

func TestGroupsBeyondTheLimit(t *testing.T) {
	sigs, seals := kinds[0], kinds[3]
	for _, k := range kinds {
		count := api.MaxPrimitive / len(k.pattern)
		for _, x := range []struct {
			l    []api.Group
			text string
		}{
			{[]api.Group{group(k, count+1)}, standard(k, count+1)},
			{[]api.Group{group(k, count), group(k, 1)}, standard(k, count) + standard(k, 1)},
			{[]api.Group{group(sigs, 1), group(k, count)}, standard(sigs, 1) + standard(k, count)},
			{[]api.Group{group(k, count), group(sigs, 1), group(seals, 0)}, standard(k, count) + standard(sigs, 1) + standard(seals, 0)},
			{[]api.Group{group(k, count), group(k, count)}, standard(k, count) + standard(k, count)},
		} {
			checkEncode(t, x.l, "", api.ErrLimit)
			checkDecodeError(t, x.text, api.ErrLimit)
		}
	}
	checkDecodeError(t, standard(seals, maxCount), api.ErrLimit)
}

func TestManyGroupsWithoutItems(t *testing.T) {
	l := slices.Repeat([]api.Group{{Kind: api.GroupSigs}, {Kind: api.GroupSeals}}, 3*api.MaxPrimitive)
	checkBoth(t, l, strings.Repeat("-AAA-GAA", 3*api.MaxPrimitive))
}

// P4.2: errors of Encode

func TestEncodeOfNoKind(t *testing.T) {
	for _, kind := range noKinds {
		checkEncode(t, []api.Group{{Kind: kind}}, "", api.ErrCode)
		for code := range raws {
			checkEncode(t, []api.Group{{Kind: kind, Items: []api.Primitive{item(code, 0)}}}, "", api.ErrCode)
		}
		checkEncode(t, []api.Group{group(kinds[0], 1), {Kind: kind}, group(kinds[3], 1)}, "", api.ErrCode)
	}
}

func TestEncodeOfOtherCodes(t *testing.T) {
	for _, k := range kinds {
		for place := range 3 * len(k.pattern) {
			for code := -1; code <= 10; code++ {
				g := group(k, 3)
				if code == g.Items[place].Code {
					continue
				}
				g.Items[place] = item(code, 0)
				checkEncode(t, []api.Group{g}, "", api.ErrCode)
				checkEncode(t, []api.Group{group(k, 1), g, group(k, 1)}, "", api.ErrCode)
			}
		}
	}
}

func TestEncodeOfCodesThatBreakOff(t *testing.T) {
	for _, k := range kinds {
		for count := range 4 {
			g := group(k, count)
			for _, code := range k.pattern[:len(k.pattern)-1] {
				g.Items = append(g.Items, item(code, 9))
				checkEncode(t, []api.Group{g}, "", api.ErrCode)
				checkEncode(t, []api.Group{g, group(k, 1)}, "", api.ErrCode)
			}
		}
		if len(k.pattern) > 1 {
			g := group(k, 2)
			g.Items = g.Items[1:]
			checkEncode(t, []api.Group{g}, "", api.ErrCode)
			g.Items = g.Items[:2]
			checkEncode(t, []api.Group{g}, "", api.ErrCode)
		}
	}
}

func TestEncodeOfOtherSizes(t *testing.T) {
	for _, k := range kinds {
		for place := range 2 * len(k.pattern) {
			g := group(k, 2)
			raw := g.Items[place].Raw
			for _, other := range []string{"", raw[1:], raw + "x", raw + raw, strings.Repeat("x", 3*api.MaxBytes)} {
				g.Items[place].Raw = other
				checkEncode(t, []api.Group{g}, "", api.ErrSize)
				checkEncode(t, []api.Group{group(k, 1), g, group(k, 1)}, "", api.ErrSize)
			}
		}
	}
}

// Each error is looked for in all groups before the next one.
func TestEncodeOrderOfTheErrors(t *testing.T) {
	short := group(kinds[0], 1)
	short.Items[0].Raw = "short"
	none := api.Group{Kind: 5}
	swapped := group(kinds[3], 1)
	slices.Reverse(swapped.Items)
	full := group(kinds[0], api.MaxPrimitive)
	for _, l := range [][]api.Group{{short, none}, {none, short}, {short, swapped}, {swapped, short}, {none, swapped}} {
		checkEncode(t, l, "", api.ErrCode)
	}
	for _, l := range [][]api.Group{
		{full, short}, {short, full}, {full, swapped}, {swapped, full}, {none, short, full},
		{full, {Kind: 7, Items: full.Items[:1]}}, {{Kind: 0, Items: full.Items[:1]}, full},
		{{Kind: 0, Items: slices.Repeat(short.Items, api.MaxPrimitive+1)}},
		{{Kind: api.GroupSeals, Items: slices.Repeat(short.Items, api.MaxPrimitive+1)}},
		{{Kind: api.GroupSigs, Items: slices.Repeat(short.Items, api.MaxPrimitive+1)}},
	} {
		checkEncode(t, l, "", api.ErrLimit)
	}
	checkEncode(t, []api.Group{full, none}, "", api.ErrCode)
}

// P4.2: errors of Decode

func TestDecodeOfTextsThatBeginWithNoMark(t *testing.T) {
	for _, before := range []string{"", "-AAA", standard(kinds[0], 1), standard(kinds[3], 2)} {
		for _, text := range []string{
			"-", "-A", "-AA", "-G_", "A", "AAA", "AAAA", "AAAAAAAA", "--AA", "-DAA", "-EAA", "-FAA", "-HAA", "-aAA", "-gAA", "-0AA",
			"- AA", "-\x00AA", "-\u00c1A", " -AAA", "-A=A", "-AA=", "-A A", "-AA\n", "-A\xff\xff", "\u2010AAA", "_AAA", "-A==", "-=AA",
			"E" + strings.Repeat("A", 43), written(item(api.CodeSignature, 0)), "MAAB", "1AALAAAAAAAA",
		} {
			checkDecodeError(t, before+text, api.ErrForm)
		}
	}
}

func TestEachCharacterOfAMark(t *testing.T) {
	for c := range 256 {
		one := string([]byte{byte(c)})
		if one != "-" {
			checkDecodeError(t, one+"AAA", api.ErrForm)
		}
		if !strings.Contains("ABCG", one) {
			checkDecodeError(t, "-"+one+"AA", api.ErrForm)
		}
		for _, k := range kinds {
			if !strings.Contains(digits, one) {
				checkDecodeError(t, "-"+k.letter+one+"A", api.ErrForm)
				checkDecodeError(t, "-"+k.letter+"A"+one, api.ErrForm)
			} else if one != "A" {
				// So many primitives are not there.
				checkDecodeError(t, "-"+k.letter+one+"A", api.ErrCode)
				checkDecodeError(t, "-"+k.letter+"A"+one, api.ErrCode)
			}
		}
	}
}

// at returns the text of a group of three patterns in which text stands in
// place of the primitive with a number, as the last one or with the others
// after it.
func at(k kind, place int, text string, more bool) string {
	items := group(k, 3).Items
	all := mark(k, 3) + written(items[:place]...) + text
	if more {
		all += written(items[place+1:]...)
	}
	return all
}

func TestDecodeOfOtherCodes(t *testing.T) {
	for _, k := range kinds {
		for place, p := range group(k, 3).Items {
			for code := range raws {
				if code == p.Code {
					continue
				}
				other := written(item(code, 1))
				checkDecodeError(t, at(k, place, other, false), api.ErrCode)
				checkDecodeError(t, at(k, place, other, true), api.ErrCode)
				checkDecodeError(t, at(k, place, other+written(p), true), api.ErrCode)
				checkDecodeError(t, at(k, place, other+"!", false), api.ErrCode)
			}
		}
	}
}

// What is wrong with a primitive itself comes before that it has another code.
func TestDecodeOfPrimitivesThatAreNone(t *testing.T) {
	for _, k := range kinds {
		for place := range group(k, 3).Items {
			for _, more := range []bool{false, true} {
				for _, text := range []string{"e", "!", "-AAA", "0B", "1AAM", "\x00", "=AAA"} {
					checkDecodeError(t, at(k, place, text, more), api.ErrCode)
				}
				for code := range raws {
					text := written(item(code, 2))
					digit := text[:len(text)-1] + "="
					checkDecodeError(t, at(k, place, digit, more), api.ErrForm)
				}
				for _, text := range []string{"EQ" + strings.Repeat("A", 42), "BQ" + strings.Repeat("A", 42), "MQAA", "0AE" + strings.Repeat("A", 21), "SQ" + strings.Repeat("A", 834), "1AAL=AAAAAAA"} {
					checkDecodeError(t, at(k, place, text, more), api.ErrForm)
				}
			}
			for _, text := range []string{"", "0", "1", "1A", "1AA"} {
				checkDecodeError(t, at(k, place, text, false), api.ErrCode)
			}
			for _, text := range []string{"E", "D", "B", "A", "0A", "M", "S", "1AAL", "E!", "MQ", "S=", "0A_", "1AAL="} {
				checkDecodeError(t, at(k, place, text, false), api.ErrSize)
			}
		}
	}
}

func TestDecodeOfTextsThatBreakOff(t *testing.T) {
	for _, k := range kinds {
		text := standard(k, 2)
		for n := 1; n < 4; n++ {
			checkDecodeError(t, text[:n], api.ErrForm)
		}
		start := 4
		for _, p := range group(k, 2).Items {
			codeSize := 1
			if p.Code == api.CodeLong {
				codeSize = 4
			}
			size := len(written(p))
			for n := range size {
				want := api.ErrSize
				if n < codeSize {
					want = api.ErrCode
				}
				checkDecodeError(t, text[:start+n], want)
			}
			start += size
		}
		if start != len(text) {
			t.Errorf("kind %d: %d of %d characters", k.kind, start, len(text))
		}
	}
}

func TestDecodeOfOtherCounts(t *testing.T) {
	for _, k := range kinds {
		body := standard(k, 3)[4:]
		checkDecode(t, mark(k, 3)+body, []api.Group{group(k, 3)})
		for count := range 3 {
			checkDecodeError(t, mark(k, count)+body, api.ErrForm)
		}
		for _, count := range []int{4, 5, 64, 512, 513, 1024, 1025, maxCount} {
			checkDecodeError(t, mark(k, count)+body, api.ErrCode)
			checkDecodeError(t, mark(k, count)+body+"-AAA", api.ErrCode)
		}
	}
}

// The first error in the text decides, whichever one it is.
func TestDecodeFirstErrorInTheText(t *testing.T) {
	wrong := []struct {
		text string
		e    api.Errno
	}{
		{"-DAA", api.ErrForm},
		{"-A=A", api.ErrForm},
		{"-AAB" + "SQ" + strings.Repeat("A", 834), api.ErrForm},
		{"-AAB" + "-AAA", api.ErrCode},
		{"-AAB" + written(item(api.CodeDigest, 0)), api.ErrCode},
		{"-GAB" + written(item(api.CodeDigest, 0), item(api.CodeLong, 0)), api.ErrCode},
	}
	for _, a := range wrong {
		for _, b := range wrong {
			checkDecodeError(t, a.text+b.text, a.e)
			checkDecodeError(t, "-AAA"+a.text+standard(kinds[3], 1)+b.text, a.e)
		}
		checkDecodeError(t, a.text+"-AABS", a.e)
		checkDecodeError(t, "-AAB"+a.text, api.ErrCode)
		checkDecodeError(t, standard(kinds[1], 2)+a.text, a.e)
	}
	checkDecodeError(t, "-AABS"+"-DAA", api.ErrSize)
}

// That there are too many primitives comes after all other errors.
func TestDecodeLimitComesLast(t *testing.T) {
	seals := kinds[3]
	full, one := standard(seals, api.MaxPrimitive/2), standard(seals, 1)
	checkDecodeError(t, full+one, api.ErrLimit)
	for _, x := range []struct {
		text string
		e    api.Errno
	}{
		{"x", api.ErrForm}, {"-", api.ErrForm}, {"-DAA", api.ErrForm}, {"-AABS=" + strings.Repeat("A", 834), api.ErrForm},
		{"-AAB", api.ErrCode}, {"-AAB" + written(item(api.CodeDigest, 0)), api.ErrCode},
		{"-AABS", api.ErrSize}, {one[:len(one)-1], api.ErrSize}, {"-AAA", api.ErrLimit}, {one, api.ErrLimit},
	} {
		checkDecodeError(t, full+one+x.text, x.e)
		checkDecodeError(t, standard(seals, maxCount)+x.text, x.e)
	}
	long := standard(seals, maxCount)
	checkDecodeError(t, long[:len(long)-1], api.ErrSize)
	checkDecodeError(t, long[:len(long)-1]+"=", api.ErrForm)
	checkDecodeError(t, long[:len(long)-44], api.ErrCode)
}

// P4.3

func TestBinaryOfMoreThanBase64Decodes(t *testing.T) {
	sigs := kinds[0]
	for _, count := range []int{sigsInBinary - 1, sigsInBinary} {
		want, e := primitive.Binary(standard(sigs, count))
		b, f := Binary([]api.Group{group(sigs, count)})
		if e != api.OK || f != api.OK || b != want || len(b) != (4+count*sigSize)/4*3 {
			t.Errorf("Binary of %d signatures: %d bytes, %d, %d", count, len(b), e, f)
		}
	}
	for _, count := range []int{sigsInBinary + 1, api.MaxPrimitive} {
		l := []api.Group{group(sigs, count)}
		checkEncode(t, l, standard(sigs, count), api.OK)
		if b, e := Binary(l); b != "" || e != api.ErrLimit {
			t.Errorf("Binary of %d signatures: %d bytes, %d", count, len(b), e)
		}
	}
}

func checkFromBinaryError(t *testing.T, b string, want api.Errno) {
	t.Helper()
	if l, e := FromBinary(b); len(l) != 0 || e != want {
		t.Errorf("FromBinary of %d bytes %.24q: %d groups, %d; want %d alone", len(b), b, len(l), e, want)
	}
}

func TestFromBinaryErrorsOfText(t *testing.T) {
	none := strings.Repeat("\xf8\x00\x00", api.MaxBytes/3) // -AAA, again and again
	if l, e := FromBinary(none); len(l) != api.MaxBytes/3 || e != api.OK {
		t.Errorf("FromBinary of %d bytes: %d groups, %d", len(none), len(l), e)
	}
	for _, n := range []int{1, 2, 4, 5, api.MaxBytes - 2, api.MaxBytes} {
		checkFromBinaryError(t, (none + "\x00")[:n], api.ErrSize)
	}
	for _, b := range []string{none + "\x00\x00", none + "\xf8\x00\x00", none + none, strings.Repeat("x", api.MaxBytes+1)} {
		checkFromBinaryError(t, b, api.ErrLimit)
	}
}

// The three bytes of a mark may be any, so that each first text is tried.
func TestFromBinaryOfMarks(t *testing.T) {
	for _, x := range []struct {
		b string
		e api.Errno
	}{
		{"\x00\x00\x00", api.ErrForm}, {"\xff\xff\xff", api.ErrForm}, {"\xf8\x30\x00", api.ErrForm}, {"\xfb\xe0\x00", api.ErrForm},
		{"\xf8\x00\x01", api.ErrCode}, {"\xf8\x6f\xff", api.ErrCode}, {"\xf8\x00\x00\x00\x00\x00", api.ErrForm},
		{"\xf8\x00\x01\x10\x00\x00", api.ErrSize}, {"\xf8\x00\x01\x48\x00\x00", api.ErrSize}, {"\xf8\x00\x01\x30\x00\x01", api.ErrCode},
	} {
		checkFromBinaryError(t, x.b, x.e)
	}
}

func TestFromBinaryBeyondMaxPrimitive(t *testing.T) {
	text := standard(kinds[3], api.MaxPrimitive/2)
	checkBinary(t, []api.Group{group(kinds[3], api.MaxPrimitive/2)}, text)
	// checkDecodeError takes the binary form, too: it is short enough.
	b, e := primitive.Binary(text + standard(kinds[3], 1))
	if e != api.OK || len(b) > api.MaxBytes {
		t.Fatalf("%d bytes, %d", len(b), e)
	}
	checkFromBinaryError(t, b, api.ErrLimit)
	checkDecodeError(t, text+standard(kinds[3], 1)+"MAAA", api.ErrForm)
}

// Consequences

// No other text than that of Encode gives groups.
func TestGroupsHaveOneText(t *testing.T) {
	for _, k := range kinds {
		text := "-BAA" + standard(k, 1) + "-GAA"
		for place := range len(text) {
			// Marks and codes are near the begin; further on, some characters will do.
			step := 1
			if place >= 64 && place < len(text)-64 {
				step = 15
			}
			for c := 0; c < 256; c += step {
				changed := replaced(text, place, byte(c))
				if l, e := Decode(changed); e == api.OK {
					checkEncode(t, l, changed, api.OK)
				}
			}
		}
	}
}

// FuzzAll looks for a kind, a count or a string that breaks P1, or for one that
// does not come back.
func FuzzAll(f *testing.F) {
	for _, k := range kinds {
		f.Add(k.kind, 3, standard(k, 2))
		f.Add(k.kind, maxCount, standard(k, 1)+standard(kinds[3], 2))
	}
	for _, s := range []string{"", "-", "-AAA", "-AAB", "-DAA", "-A=A", "\xf8\x00\x00", "MAAB"} {
		f.Add(math.MinInt, math.MaxInt, s)
	}
	f.Fuzz(func(t *testing.T, kind, count int, s string) {
		if text, e := Mark(kind, count); (e == api.OK) != (len(text) == 4) || e != api.OK && e != api.ErrRange {
			t.Errorf("Mark(%d, %d): %q, %d", kind, count, text, e)
		}
		l, e := Decode(s)
		if e == api.OK {
			checkBoth(t, l, s)
		} else {
			checkDecodeError(t, s, e)
		}
		if l, e := FromBinary(s); e == api.OK {
			if b, e := Binary(l); b != s || e != api.OK {
				t.Errorf("Binary of FromBinary of %.24q: %.24q, %d", s, b, e)
			}
		}
		g := api.Group{Kind: kind, Items: []api.Primitive{{Code: count, Raw: s}}}
		if text, e := Encode([]api.Group{g}); e == api.OK {
			checkDecode(t, text, []api.Group{g})
		} else {
			checkEncode(t, []api.Group{g}, "", e)
		}
	})
}
