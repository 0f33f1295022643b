package primitive

import (
	stdlib "encoding/base64"
	"math"
	"strings"
	"testing"

	"keyevent/api"
)

// kind is a row of the chapter's list. It is written out with its lead and its
// length, so that no test rests on how the package computes them.
type kind struct {
	code            int
	text            string
	raw, lead, size int
}

var kinds = []kind{
	{api.CodeDigest, "E", 32, 1, 44},
	{api.CodeKey, "D", 32, 1, 44},
	{api.CodeWitness, "B", 32, 1, 44},
	{api.CodeSeed, "A", 32, 1, 44},
	{api.CodeSalt, "0A", 16, 2, 24},
	{api.CodeNumber, "M", 2, 1, 4},
	{api.CodeSignature, "S", 626, 1, 836},
	{api.CodeLong, "1AAL", 6, 0, 12},
}

const digits = "ABCDEFGHIJKLMNOPQRSTUVWXYZ" + "abcdefghijklmnopqrstuvwxyz" + "0123456789" + "-" + "_"

// noCodes are numbers that are no code.
var noCodes = []int{0, -1, -2, -8, 9, 10, 64, 255, 256, 257, 1<<32 + 1, math.MaxInt, math.MinInt}

// standard is the text of a primitive, made with the library's digits.
func standard(k kind, raw string) string {
	all := stdlib.RawURLEncoding.EncodeToString([]byte(strings.Repeat("\x00", k.lead) + raw))
	return k.text + all[k.lead:]
}

// mixedBytes returns n bytes; with another salt most of them differ.
func mixedBytes(n, salt int) string {
	b := make([]byte, n)
	for i := range b {
		b[i] = byte(i*i*31 + i>>3 + 7*n + 101*salt)
	}
	return string(b)
}

// rawsOf returns some raw bytes of a code.
func rawsOf(k kind) []string {
	l := []string{strings.Repeat("\x00", k.raw), strings.Repeat("\xff", k.raw)}
	for salt := range 8 {
		l = append(l, mixedBytes(k.raw, salt))
	}
	return l
}

func checkEncode(t *testing.T, code int, raw, want string, wantErr api.Errno) {
	t.Helper()
	if text, e := Encode(api.Primitive{Code: code, Raw: raw}); text != want || e != wantErr {
		t.Errorf("Encode of code %d, %d bytes %.8q: %.24q, %d; want %.24q, %d", code, len(raw), raw, text, e, want, wantErr)
	}
	if text := Make(code, raw); text != want {
		t.Errorf("Make(%d, %d bytes %.8q): %.24q; want %.24q", code, len(raw), raw, text, want)
	}
}

func checkDecode(t *testing.T, text string, code int, raw string, size int) {
	t.Helper()
	p, n, e := Decode(text)
	if p.Code != code || p.Raw != raw || n != size || e != api.OK {
		t.Errorf("Decode of %d characters %.16q: code %d, %.16q, %d, %d; want code %d, %.16q, %d", len(text), text, p.Code, p.Raw, n, e, code, raw, size)
	}
}

func checkDecodeError(t *testing.T, text string, want api.Errno) {
	t.Helper()
	p, n, e := Decode(text)
	if p != (api.Primitive{}) || n != 0 || e != want {
		t.Errorf("Decode of %d characters %.16q: code %d, %.16q, %d, %d; want %d alone", len(text), text, p.Code, p.Raw, n, e, want)
	}
}

func checkOpen(t *testing.T, code int, text, want string, wantErr api.Errno) {
	t.Helper()
	if raw, e := Open(code, text); raw != want || e != wantErr {
		t.Errorf("Open(%d, %d characters %.16q): %.16q, %d; want %.16q, %d", code, len(text), text, raw, e, want, wantErr)
	}
}

func checkBinary(t *testing.T, text, want string, wantErr api.Errno) {
	t.Helper()
	if b, e := Binary(text); b != want || e != wantErr {
		t.Errorf("Binary of %d characters %.16q: %.16q, %d; want %.16q, %d", len(text), text, b, e, want, wantErr)
	}
}

func checkText(t *testing.T, b, want string, wantErr api.Errno) {
	t.Helper()
	if text, e := Text(b); text != want || e != wantErr {
		t.Errorf("Text of %d bytes %.16q: %.16q, %d; want %.16q, %d", len(b), b, text, e, want, wantErr)
	}
}

// replaced returns text with another character in one place.
func replaced(text string, place int, c byte) string {
	return text[:place] + string([]byte{c}) + text[place+1:]
}

// P3.1

func TestEachCode(t *testing.T) {
	for _, k := range kinds {
		if text, ok := Code(k.code); text != k.text || !ok {
			t.Errorf("Code(%d): %q, %t; want %q", k.code, text, ok, k.text)
		}
		if n := Raw(k.code); n != k.raw {
			t.Errorf("Raw(%d): %d; want %d", k.code, n, k.raw)
		}
		if n := Size(k.code); n != k.size {
			t.Errorf("Size(%d): %d; want %d", k.code, n, k.size)
		}
	}
}

func TestNumbersThatAreNoCode(t *testing.T) {
	for _, code := range noCodes {
		text, ok := Code(code)
		if text != "" || ok || Raw(code) != 0 || Size(code) != 0 {
			t.Errorf("code %d: %q, %t, %d, %d", code, text, ok, Raw(code), Size(code))
		}
	}
	found := 0
	for code := -300; code <= 300; code++ {
		if _, ok := Code(code); ok {
			found++
		}
	}
	if found != len(kinds) {
		t.Error("codes:", found)
	}
}

// P3.2

func TestKnownTexts(t *testing.T) {
	for _, x := range []struct {
		code      int
		raw, text string
	}{
		{api.CodeDigest, strings.Repeat("\x00", 32), "E" + strings.Repeat("A", 43)},
		{api.CodeDigest, strings.Repeat("\xff", 32), "EP" + strings.Repeat("_", 42)},
		{api.CodeDigest, "\x80" + strings.Repeat("\x00", 31), "EIA" + strings.Repeat("A", 41)},
		{api.CodeDigest, strings.Repeat("\x00", 31) + "\x01", "E" + strings.Repeat("A", 42) + "B"},
		{api.CodeKey, strings.Repeat("\xff", 32), "DP" + strings.Repeat("_", 42)},
		{api.CodeWitness, strings.Repeat("\x00", 32), "B" + strings.Repeat("A", 43)},
		{api.CodeSeed, strings.Repeat("\x00", 32), strings.Repeat("A", 44)},
		{api.CodeSalt, strings.Repeat("\x00", 16), "0A" + strings.Repeat("A", 22)},
		{api.CodeSalt, strings.Repeat("\xff", 16), "0AD" + strings.Repeat("_", 21)},
		{api.CodeSalt, "\x40" + strings.Repeat("\x00", 15), "0AB" + strings.Repeat("A", 21)},
		{api.CodeNumber, "\x00\x00", "MAAA"},
		{api.CodeNumber, "\x00\x01", "MAAB"},
		{api.CodeNumber, "\x01\x00", "MAEA"},
		{api.CodeNumber, "\xff\xff", "MP__"},
		{api.CodeSignature, strings.Repeat("\x00", 626), "S" + strings.Repeat("A", 835)},
		{api.CodeSignature, strings.Repeat("\xff", 626), "SP" + strings.Repeat("_", 834)},
		{api.CodeLong, strings.Repeat("\x00", 6), "1AALAAAAAAAA"},
		{api.CodeLong, "\x00\x00\x00\x00\x00\x01", "1AALAAAAAAAB"},
		{api.CodeLong, "\x80\x00\x00\x00\x00\x00", "1AALgAAAAAAA"},
		{api.CodeLong, strings.Repeat("\xff", 6), "1AAL________"},
	} {
		checkEncode(t, x.code, x.raw, x.text, api.OK)
		checkDecode(t, x.text, x.code, x.raw, len(x.text))
		checkOpen(t, x.code, x.text, x.raw, api.OK)
	}
}

func TestTextsAgreeWithTheLibrary(t *testing.T) {
	for _, k := range kinds {
		for _, raw := range rawsOf(k) {
			text := standard(k, raw)
			if len(text) != k.size {
				t.Fatalf("code %d: %d characters", k.code, len(text))
			}
			checkEncode(t, k.code, raw, text, api.OK)
			checkDecode(t, text, k.code, raw, k.size)
			checkOpen(t, k.code, text, raw, api.OK)
		}
	}
}

func TestEachBitOfTheRawBytes(t *testing.T) {
	for _, k := range kinds {
		for place := range k.raw {
			for bit := range 8 {
				raw := replaced(strings.Repeat("\x00", k.raw), place, 1<<bit)
				text := standard(k, raw)
				checkEncode(t, k.code, raw, text, api.OK)
				checkDecode(t, text, k.code, raw, k.size)
			}
		}
	}
}

func TestEncodeOfNoCode(t *testing.T) {
	for _, code := range noCodes {
		for _, n := range []int{0, 1, 2, 6, 16, 32, 33, 626} {
			checkEncode(t, code, mixedBytes(n, 0), "", api.ErrCode)
		}
	}
}

func TestEncodeOfOtherLengths(t *testing.T) {
	for _, k := range kinds {
		for n := range 700 {
			if n != k.raw {
				checkEncode(t, k.code, mixedBytes(n, 0), "", api.ErrSize)
			}
		}
		// Beyond the limit of base64.Encode the size is what is wrong, too.
		checkEncode(t, k.code, mixedBytes(2*api.MaxBytes, 0), "", api.ErrSize)
	}
}

func TestDecodeOfTextsThatBeginWithNoCode(t *testing.T) {
	rest := strings.Repeat("A", 900)
	for c := range 256 {
		first := string([]byte{byte(c)})
		if !strings.Contains("EDBA0MS1", first) {
			checkDecodeError(t, first, api.ErrCode)
			checkDecodeError(t, first+rest, api.ErrCode)
		}
		if first != "A" {
			checkDecodeError(t, "0"+first+rest, api.ErrCode)
			checkDecodeError(t, "1"+first+"AL"+rest, api.ErrCode)
			checkDecodeError(t, "1A"+first+"L"+rest, api.ErrCode)
		}
		if first != "L" {
			checkDecodeError(t, "1AA"+first+rest, api.ErrCode)
		}
	}
	for _, text := range []string{"", "0", "1", "1A", "1AA", "-AAA", " E", "e", "0a", "1aal", "\u0415"} {
		checkDecodeError(t, text, api.ErrCode)
	}
}

func TestDecodeOfShortTexts(t *testing.T) {
	for _, k := range kinds {
		text := standard(k, mixedBytes(k.raw, 0))
		for n := len(k.text); n < k.size; n++ {
			checkDecodeError(t, text[:n], api.ErrSize)
			checkOpen(t, k.code, text[:n], "", api.ErrSize)
			// What is no digit, or stands in the lead, comes after the size.
			checkDecodeError(t, k.text+strings.Repeat("!", n-len(k.text)), api.ErrSize)
			checkDecodeError(t, k.text+strings.Repeat("_", n-len(k.text)), api.ErrSize)
		}
		for n := range len(k.text) {
			checkDecodeError(t, text[:n], api.ErrCode)
		}
	}
}

func TestDecodeOfCharactersThatAreNoDigits(t *testing.T) {
	for _, k := range kinds {
		text := standard(k, mixedBytes(k.raw, 0))
		for place := len(k.text); place < k.size; place++ {
			for _, c := range []byte("=+/!. \n\r\x00\x7f\x80\xc3\xff") {
				checkDecodeError(t, replaced(text, place, c), api.ErrForm)
			}
		}
		for c := range 256 {
			if strings.IndexByte(digits, byte(c)) < 0 {
				checkDecodeError(t, replaced(text, len(k.text), byte(c)), api.ErrForm)
				checkDecodeError(t, replaced(text, k.size-1, byte(c))+"more", api.ErrForm)
			}
		}
		checkDecodeError(t, k.text+strings.Repeat("!", k.size), api.ErrForm)
	}
}

// The lead of 1 byte has 2 written bits, that of 2 bytes has 4.
func TestDecodeOfWrittenBitsOfTheLead(t *testing.T) {
	for _, k := range kinds {
		raw := "\x00" + mixedBytes(k.raw, 0)[1:]
		text := standard(k, raw)
		free := []int{64, 16, 4}[k.lead] // digits whose bits of the lead are 0
		for v := range 64 {
			changed := replaced(text, len(k.text), digits[v])
			if v >= free {
				checkDecodeError(t, changed, api.ErrForm)
				checkDecodeError(t, changed+text, api.ErrForm)
				continue
			}
			p, n, e := Decode(changed)
			if e != api.OK || n != k.size || standard(k, p.Raw) != changed {
				t.Errorf("Decode of code %d with the digit %d in the lead: %.8q, %d, %d", k.code, v, p.Raw, n, e)
			}
		}
	}
}

func TestDecodeLeavesWhatFollows(t *testing.T) {
	for _, k := range kinds {
		raw := mixedBytes(k.raw, 1)
		text := standard(k, raw)
		for _, rest := range []string{"", "A", "more", "!", "\x00", "=", "-AAA", "\xff\xff\xff", "0", text, text[:1], strings.Repeat("_", 3*api.MaxBytes), strings.Repeat("!", 3*api.MaxBytes)} {
			checkDecode(t, text+rest, k.code, raw, k.size)
		}
	}
}

// P3.3

func TestBinaryAndTextOfBytesThatAreNoPrimitives(t *testing.T) {
	for n := 0; n <= 99; n += 3 {
		b := mixedBytes(n, 2)
		text := stdlib.RawURLEncoding.EncodeToString([]byte(b))
		checkBinary(t, text, b, api.OK)
		checkText(t, b, text, api.OK)
	}
}

func TestBinaryErrors(t *testing.T) {
	greatest := strings.Repeat("A", 2*api.MaxBytes)
	checkBinary(t, greatest, strings.Repeat("\x00", api.MaxBytes/2*3), api.OK)
	for _, text := range []string{greatest + "A", greatest + "AAAA", strings.Repeat("!", 2*api.MaxBytes+1)} {
		checkBinary(t, text, "", api.ErrLimit)
	}
	for _, text := range []string{"A", "AA", "AAA", "AAAAA", "!", "!!!", greatest[1:]} {
		checkBinary(t, text, "", api.ErrSize)
	}
	for _, text := range []string{"AAA=", "!AAA", "AAAA+AAA", "AA\nA", greatest[4:] + "AA==", "\xff\xff\xff\xff"} {
		checkBinary(t, text, "", api.ErrForm)
	}
}

func TestTextErrors(t *testing.T) {
	greatest := mixedBytes(api.MaxBytes-1, 0)
	checkText(t, greatest, stdlib.RawURLEncoding.EncodeToString([]byte(greatest)), api.OK)
	for _, n := range []int{1, 2, 3, 100} {
		checkText(t, mixedBytes(api.MaxBytes+n, 0), "", api.ErrLimit)
	}
	for _, n := range []int{1, 2, 4, 5, 100, api.MaxBytes - 2, api.MaxBytes} {
		checkText(t, mixedBytes(n, 0), "", api.ErrSize)
	}
}

func TestOpenOfAnotherCode(t *testing.T) {
	for _, k := range kinds {
		text := standard(k, mixedBytes(k.raw, 3))
		for _, other := range kinds {
			if other.code != k.code {
				checkOpen(t, other.code, text, "", api.ErrCode)
				checkOpen(t, other.code, text+"A", "", api.ErrCode)
				checkOpen(t, other.code, text+text, "", api.ErrCode)
			}
		}
		for _, code := range noCodes {
			checkOpen(t, code, text, "", api.ErrCode)
			checkOpen(t, code, text+"A", "", api.ErrCode)
		}
	}
}

func TestOpenOfMoreThanOnePrimitive(t *testing.T) {
	for _, k := range kinds {
		text := standard(k, mixedBytes(k.raw, 4))
		for _, rest := range []string{"A", "!", "\x00", "AAAA", text, strings.Repeat("A", 3*api.MaxBytes)} {
			checkOpen(t, k.code, text+rest, "", api.ErrSize)
		}
	}
}

// Errors of Decode come before those of Open, whichever code is asked for.
func TestOpenOfTextsThatAreNoPrimitive(t *testing.T) {
	codes := append([]int{0, -1, 9}, api.CodeDigest, api.CodeSalt, api.CodeNumber, api.CodeSignature, api.CodeLong)
	digest := "E" + strings.Repeat("A", 43)
	for _, code := range codes {
		for _, text := range []string{"", "0", "1AA", "-AAA", "e" + digest[1:]} {
			checkOpen(t, code, text, "", api.ErrCode)
		}
		for _, text := range []string{"E", digest[:43], "E!", "0A", "M__", "1AAL", "1AAL_______", "S" + digest} {
			checkOpen(t, code, text, "", api.ErrSize)
		}
		for _, text := range []string{digest[:43] + "=", "E!" + digest[2:], "EQ" + digest[2:], "MQAA", "MQAAA", "0AE" + digest[:21], "1AAL=AAAAAAA", digest[:43] + "!A"} {
			checkOpen(t, code, text, "", api.ErrForm)
		}
	}
}

// Consequences

// allPrimitives returns several primitives of each code, in an order in which
// each code follows each other one.
func allPrimitives() []api.Primitive {
	var l []api.Primitive
	for i, a := range kinds {
		for j, b := range kinds {
			l = append(l, api.Primitive{Code: a.code, Raw: mixedBytes(a.raw, i+j)})
			l = append(l, api.Primitive{Code: b.code, Raw: mixedBytes(b.raw, i*j)})
		}
	}
	return l
}

func TestPrimitivesOneAfterTheOther(t *testing.T) {
	l := allPrimitives()
	var text, binary string
	for _, p := range l {
		one, e := Encode(p)
		b, f := Binary(one)
		if e != api.OK || f != api.OK || len(one)%4 != 0 {
			t.Fatalf("code %d: %d characters, %d, %d", p.Code, len(one), e, f)
		}
		text, binary = text+one, binary+b
	}
	checkBinary(t, text, binary, api.OK)
	checkText(t, binary, text, api.OK)
	at := 0
	for _, p := range l {
		checkDecode(t, text[at:], p.Code, p.Raw, Size(p.Code))
		// The binary form of each begins and ends where three bytes do.
		part, e := Text(binary[at/4*3 : (at+Size(p.Code))/4*3])
		if e != api.OK {
			t.Fatal("Text:", e)
		}
		checkOpen(t, p.Code, part, p.Raw, api.OK)
		at += Size(p.Code)
	}
	if at != len(text) {
		t.Errorf("%d of %d characters", at, len(text))
	}
}

// No other text than that of Encode gives a primitive.
func TestEachPrimitiveHasOneText(t *testing.T) {
	for _, k := range kinds {
		raw := mixedBytes(k.raw, 5)
		text := standard(k, raw)
		for place := range k.size {
			for c := range 256 {
				changed := replaced(text, place, byte(c))
				p, n, e := Decode(changed)
				if e != api.OK {
					continue
				}
				if again := Make(p.Code, p.Raw); again != changed[:n] {
					t.Errorf("Decode of %.24q gives what has the text %.24q", changed, again)
				}
			}
		}
	}
}

// FuzzAll looks for a code or a text that breaks P1, or a text that does not
// come back.
func FuzzAll(f *testing.F) {
	for _, k := range kinds {
		f.Add(k.code, standard(k, mixedBytes(k.raw, 0)))
		f.Add(k.code, mixedBytes(k.raw, 0))
	}
	for _, s := range []string{"", "0", "1AA", "MQAA", "0AE", "-AAA", "\xff\xff\xff"} {
		f.Add(0, s)
		f.Add(math.MinInt, s)
	}
	f.Fuzz(func(t *testing.T, code int, s string) {
		p, n, e := Decode(s)
		if e == api.OK {
			checkEncode(t, p.Code, p.Raw, s[:n], api.OK)
			checkOpen(t, p.Code, s[:n], p.Raw, api.OK)
		} else {
			checkDecodeError(t, s, e)
			checkOpen(t, code, s, "", e)
		}
		if text, e := Encode(api.Primitive{Code: code, Raw: s}); e == api.OK {
			checkDecode(t, text+s, code, s, Size(code))
		} else {
			checkEncode(t, code, s, "", e)
		}
		if b, e := Binary(s); e == api.OK && len(b) <= api.MaxBytes {
			checkText(t, b, s, api.OK)
		}
		if text, e := Text(s); e == api.OK {
			checkBinary(t, text, s, api.OK)
		}
	})
}
