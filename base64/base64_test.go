package base64

import (
	stdlib "encoding/base64"
	"math"
	"strconv"
	"strings"
	"testing"

	"keyevent/api"
)

// listed is written out from the chapter, so that no test rests on the
// package's own alphabet.
const listed = "ABCDEFGHIJKLMNOPQRSTUVWXYZ" + "abcdefghijklmnopqrstuvwxyz" + "0123456789" + "-" + "_"

func checkEncode(t *testing.T, s, want string, wantErr api.Errno) {
	t.Helper()
	if text, e := Encode(s); text != want || e != wantErr {
		t.Errorf("Encode of %d bytes %.12q: %.24q, %d; want %.24q, %d", len(s), s, text, e, want, wantErr)
	}
}

func checkDecode(t *testing.T, text, want string, wantErr api.Errno) {
	t.Helper()
	if s, e := Decode(text); s != want || e != wantErr {
		t.Errorf("Decode of %d characters %.12q: %.24q, %d; want %.24q, %d", len(text), text, s, e, want, wantErr)
	}
}

func checkNumber(t *testing.T, n, digits int, want string, wantErr api.Errno) {
	t.Helper()
	if text, e := Number(n, digits); text != want || e != wantErr {
		t.Errorf("Number(%d, %d): %q, %d; want %q, %d", n, digits, text, e, want, wantErr)
	}
}

func checkParse(t *testing.T, text string, want int, wantErr api.Errno) {
	t.Helper()
	if n, e := Parse(text); n != want || e != wantErr {
		t.Errorf("Parse(%q): %d, %d; want %d, %d", text, n, e, want, wantErr)
	}
}

// mixedBytes returns n bytes in which all values occur.
func mixedBytes(n int) string {
	b := make([]byte, n)
	for i := range b {
		b[i] = byte(i*i*31 + i>>3 + 7*n)
	}
	return string(b)
}

// nonDigits returns all characters that are no digits.
func nonDigits() []byte {
	var l []byte
	for c := range 256 {
		if strings.IndexByte(listed, byte(c)) < 0 {
			l = append(l, byte(c))
		}
	}
	return l
}

// P1.1

func TestDigitOfEachNumber(t *testing.T) {
	if len(listed) != 64 {
		t.Fatal("the chapter lists 64 digits, not", len(listed))
	}
	for n := range 64 {
		if c, e := Digit(n); c != listed[n] || e != api.OK {
			t.Errorf("Digit(%d): %q, %d", n, c, e)
		}
	}
}

func TestDigitOutOfRange(t *testing.T) {
	for _, n := range []int{-1, -64, 64, 65, 127, 128, 255, 256, 1 << 32, math.MaxInt, math.MinInt} {
		if c, e := Digit(n); c != 0 || e != api.ErrRange {
			t.Errorf("Digit(%d): %q, %d", n, c, e)
		}
	}
}

func TestValueOfEachCharacter(t *testing.T) {
	digits := 0
	for c := range 256 {
		n, ok := Value(byte(c))
		want := strings.IndexByte(listed, byte(c))
		if ok != (want >= 0) || n != max(want, 0) {
			t.Errorf("Value(%q): %d, %t", byte(c), n, ok)
		}
		if ok {
			digits++
		}
	}
	if digits != 64 {
		t.Error("digits:", digits)
	}
}

func TestDigitAndValueAreInverse(t *testing.T) {
	for n := range 64 {
		c, _ := Digit(n)
		if v, ok := Value(c); v != n || !ok {
			t.Errorf("Value of Digit(%d): %d, %t", n, v, ok)
		}
	}
}

// P1.2

func TestEncodeAndDecodeOfKnownTexts(t *testing.T) {
	for _, x := range []struct{ s, text string }{
		{"", ""},
		{"\x00\x00\x00", "AAAA"},
		{"\xff\xff\xff", "____"},
		{"\x00\x00\x01", "AAAB"},
		{"\x00\x00\x40", "AABA"},
		{"\x00\x10\x00", "ABAA"},
		{"\x04\x00\x00", "BAAA"},
		{"\x80\x00\x00", "gAAA"},
		{"\x00\x80\x00", "AIAA"},
		{"\x00\x00\x80", "AACA"},
		{"\xfb\xef\xbe", "----"},
		{"Man", "TWFu"},
		{"keyevents", "a2V5ZXZlbnRz"},
		{"\xff\xff\xff\x00\x00\x00", "____AAAA"},
	} {
		checkEncode(t, x.s, x.text, api.OK)
		checkDecode(t, x.text, x.s, api.OK)
	}
}

func TestEncodeAndDecodeAgreeWithTheLibrary(t *testing.T) {
	for n := 0; n <= 600; n += 3 {
		s := mixedBytes(n)
		text := stdlib.RawURLEncoding.EncodeToString([]byte(s))
		checkEncode(t, s, text, api.OK)
		checkDecode(t, text, s, api.OK)
	}
}

func TestEachByteInEachPlace(t *testing.T) {
	for place := range 3 {
		for c := range 256 {
			b := []byte("\x5a\xa5\x3c")
			b[place] = byte(c)
			text := stdlib.RawURLEncoding.EncodeToString(b)
			checkEncode(t, string(b), text, api.OK)
			checkDecode(t, text, string(b), api.OK)
		}
	}
}

func TestEncodeLimitAndSize(t *testing.T) {
	for _, n := range []int{1, 2, 4, 5, 100, api.MaxBytes - 2, api.MaxBytes} {
		checkEncode(t, mixedBytes(n), "", api.ErrSize)
	}
	greatest := mixedBytes(api.MaxBytes - 1)
	checkEncode(t, greatest, stdlib.RawURLEncoding.EncodeToString([]byte(greatest)), api.OK)
	// One of each residue modulo 3, so that the limit is seen to come first.
	for _, n := range []int{api.MaxBytes + 1, api.MaxBytes + 2, api.MaxBytes + 3, 3 * api.MaxBytes} {
		checkEncode(t, mixedBytes(n), "", api.ErrLimit)
	}
}

func TestDecodeLimitAndSize(t *testing.T) {
	for _, n := range []int{1, 2, 3, 5, 6, 7, 2*api.MaxBytes - 1, 2*api.MaxBytes - 2, 2*api.MaxBytes - 3} {
		checkDecode(t, strings.Repeat("A", n), "", api.ErrSize)
		checkDecode(t, strings.Repeat("!", n), "", api.ErrSize)
	}
	blocks := api.MaxBytes / 2
	checkDecode(t, strings.Repeat("____", blocks), strings.Repeat("\xff\xff\xff", blocks), api.OK)
	checkDecode(t, strings.Repeat("!", 2*api.MaxBytes), "", api.ErrForm)
	for _, n := range []int{2*api.MaxBytes + 1, 2*api.MaxBytes + 2, 2*api.MaxBytes + 3, 2*api.MaxBytes + 4, 4 * api.MaxBytes} {
		checkDecode(t, strings.Repeat("A", n), "", api.ErrLimit)
		checkDecode(t, strings.Repeat("!", n), "", api.ErrLimit)
	}
}

func TestDecodeOfCharactersThatAreNoDigits(t *testing.T) {
	for _, c := range nonDigits() {
		for place := range 8 {
			b := []byte("AbZ_09-y")
			b[place] = c
			checkDecode(t, string(b), "", api.ErrForm)
		}
	}
	// What other alphabets and other ends of a text have is no digit here.
	for _, text := range []string{"AAA=", "AA==", "AA+A", "AA/A", "AAA\n", "AA A", "\u00e9AA"} {
		checkDecode(t, text, "", api.ErrForm)
	}
	long := strings.Repeat("A", 2*api.MaxBytes-1)
	checkDecode(t, long+"=", "", api.ErrForm)
	checkDecode(t, "="+long, "", api.ErrForm)
}

// P1.3

func TestNumberAndParseOfKnownNumbers(t *testing.T) {
	for _, x := range []struct {
		n, digits int
		text      string
	}{
		{0, 1, "A"}, {1, 1, "B"}, {63, 1, "_"},
		{0, 2, "AA"}, {63, 2, "A_"}, {64, 2, "BA"}, {4095, 2, "__"},
		{4096, 3, "BAA"}, {4096, 4, "ABAA"},
		{66051, 4, "AQID"},
		{5, 8, "AAAAAAAF"},
		{api.MaxNumber, 7, "QAAAAAA"},
		{api.MaxNumber, 8, "AQAAAAAA"},
	} {
		checkNumber(t, x.n, x.digits, x.text, api.OK)
		checkParse(t, x.text, x.n, api.OK)
	}
}

func TestLeastAndGreatestNumbers(t *testing.T) {
	for digits := 1; digits <= 8; digits++ {
		end := 1 << (6 * digits)
		first, rest := strings.Repeat("A", digits), strings.Repeat("A", digits-1)
		checkNumber(t, 0, digits, first, api.OK)
		checkParse(t, first, 0, api.OK)
		checkNumber(t, 1, digits, rest+"B", api.OK)
		checkParse(t, rest+"B", 1, api.OK)
		checkNumber(t, end-1, digits, strings.Repeat("_", digits), api.OK)
		checkParse(t, strings.Repeat("_", digits), end-1, api.OK)
		checkNumber(t, end/2, digits, "g"+rest, api.OK)
		checkParse(t, "g"+rest, end/2, api.OK)
		for _, n := range []int{end, end + 1, 2 * end, math.MaxInt, -1, -end, math.MinInt} {
			checkNumber(t, n, digits, "", api.ErrRange)
		}
	}
}

func TestNumberOfNoSuchCountOfDigits(t *testing.T) {
	for _, digits := range []int{0, -1, -8, 9, 10, 11, 64, math.MaxInt, math.MinInt} {
		for _, n := range []int{0, 1, 63, -1, math.MaxInt} {
			checkNumber(t, n, digits, "", api.ErrRange)
		}
	}
}

func TestEachDigitInEachPlaceOfANumber(t *testing.T) {
	for digits := 1; digits <= 8; digits++ {
		for place := range digits {
			for v := range 64 {
				b := []byte(strings.Repeat("A", digits))
				b[place] = listed[v]
				n := v << (6 * (digits - 1 - place))
				checkNumber(t, n, digits, string(b), api.OK)
				checkParse(t, string(b), n, api.OK)
			}
		}
	}
}

func TestParseSizes(t *testing.T) {
	for _, n := range []int{0, 9, 10, 64, api.MaxBytes} {
		checkParse(t, strings.Repeat("A", n), 0, api.ErrSize)
		checkParse(t, strings.Repeat("!", n), 0, api.ErrSize)
	}
}

func TestParseOfCharactersThatAreNoDigits(t *testing.T) {
	for _, c := range nonDigits() {
		for digits := 1; digits <= 8; digits++ {
			for place := range digits {
				b := []byte(strings.Repeat("z", digits))
				b[place] = c
				checkParse(t, string(b), 0, api.ErrForm)
			}
		}
	}
}

// Consequences

func TestDecodeOfEncodeGivesTheBytes(t *testing.T) {
	for _, n := range []int{0, 3, 6, 255, 999, 3000, api.MaxBytes - 1} {
		s := mixedBytes(n)
		text, e := Encode(s)
		if e != api.OK || len(text) != n/3*4 {
			t.Errorf("Encode of %d bytes: %d characters, %d", n, len(text), e)
		}
		checkDecode(t, text, s, api.OK)
	}
}

func TestParseOfNumberGivesTheNumber(t *testing.T) {
	for digits := 1; digits <= 8; digits++ {
		step := max(1, 1<<(6*digits)/5003)
		for n := 0; n < 1<<(6*digits); n += step {
			text, e := Number(n, digits)
			if e != api.OK || len(text) != digits {
				t.Fatalf("Number(%d, %d): %q, %d", n, digits, text, e)
			}
			checkParse(t, text, n, api.OK)
		}
	}
}

// FuzzAll looks for a text or a number that breaks P1: a panic, or a result
// beside an error.
func FuzzAll(f *testing.F) {
	for _, s := range []string{"", "A", "AAAA", "AA=A", "\x00\xff\x80", "________", "AAAAAAAAA"} {
		f.Add(s, len(s), len(s))
	}
	f.Add("!", math.MinInt, math.MaxInt)
	f.Fuzz(func(t *testing.T, s string, n, digits int) {
		if text, e := Encode(s); e == api.OK {
			checkDecode(t, text, s, api.OK)
		} else if text != "" {
			t.Error("Encode: a text beside the error", e)
		}
		if b, e := Decode(s); e != api.OK && b != "" {
			t.Error("Decode: bytes beside the error", e)
		}
		if v, e := Parse(s); e == api.OK {
			checkNumber(t, v, len(s), s, api.OK)
		} else if v != 0 {
			t.Error("Parse: a number beside the error", e)
		}
		if text, e := Number(n, digits); e == api.OK {
			checkParse(t, text, n, api.OK)
		} else if text != "" {
			t.Error("Number: a text beside the error", e)
		}
		if c, e := Digit(n); e != api.OK && c != 0 {
			t.Error("Digit: a character beside the error " + strconv.Itoa(int(e)))
		}
	})
}
