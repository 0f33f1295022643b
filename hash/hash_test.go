package hash

import (
	"crypto/sha256"
	"encoding/binary"
	"encoding/hex"
	"slices"
	"strings"
	"testing"

	"keyevent/api"
)

// standard is the sum of s by the library.
func standard(s string) string {
	sum := sha256.Sum256([]byte(s))
	return string(sum[:])
}

// length is n as 4 bytes, the highest first.
func length(n int) string {
	return string(binary.BigEndian.AppendUint32(nil, uint32(n)))
}

// mixedBytes returns n bytes in which all values occur.
func mixedBytes(n int) string {
	b := make([]byte, n)
	for i := range b {
		b[i] = byte(i*i*31 + i>>3 + 7*n)
	}
	return string(b)
}

func checkSum(t *testing.T, s, want string) {
	t.Helper()
	if sum := Sum(s); sum != want {
		t.Errorf("Sum of %d bytes %.12q: %x; want %x", len(s), s, sum, want)
	}
}

func checkPair(t *testing.T, a, b string) {
	t.Helper()
	want := standard("\x01" + length(len(a)) + a + length(len(b)) + b)
	if sum := Pair(a, b); sum != want {
		t.Errorf("Pair of %d bytes %.12q and %d bytes %.12q: %x; want %x", len(a), a, len(b), b, sum, want)
	}
}

func checkList(t *testing.T, l []string) {
	t.Helper()
	text := "\x02" + length(len(l))
	for _, s := range l {
		text += length(len(s)) + s
	}
	if sum, want := List(l), standard(text); sum != want {
		t.Errorf("List of %d strings %.24q: %x; want %x", len(l), l, sum, want)
	}
}

// checkPadded tells whether p is s and the padding of a string of so many
// bytes that ends in s.
func checkPadded(t *testing.T, p, s string, size int) {
	t.Helper()
	rest, ok := strings.CutPrefix(p, s)
	if !ok || len(rest) < 9 {
		t.Errorf("padded %d bytes: %d bytes that do not begin with them", len(s), len(p))
		return
	}
	zeros := rest[1 : len(rest)-8]
	inBits := binary.BigEndian.Uint64([]byte(rest[len(rest)-8:]))
	if rest[0] != 128 || strings.Trim(zeros, "\x00") != "" || len(zeros) > 63 {
		t.Errorf("padded %d bytes: % x", len(s), rest)
	}
	if len(p)%64 != 0 || inBits != 8*uint64(size) {
		t.Errorf("padded %d bytes: %d bytes with the length %d", len(s), len(p), inBits)
	}
}

func checkPad(t *testing.T, s string) {
	t.Helper()
	p, e := Pad(s)
	if e != api.OK {
		t.Errorf("Pad of %d bytes: %d", len(s), e)
		return
	}
	checkPadded(t, p, s, len(s))
}

// P2.1

func TestPadOfKnownStrings(t *testing.T) {
	zeros := strings.Repeat("\x00", 64)
	for _, x := range []struct{ s, padding string }{
		{"", "\x80" + zeros[:63]},
		{"abc", "\x80" + zeros[:59] + "\x18"},
		{strings.Repeat("x", 54), "\x80" + zeros[:1] + zeros[:6] + "\x01\xb0"},
		{strings.Repeat("x", 55), "\x80" + zeros[:6] + "\x01\xb8"},
		{strings.Repeat("x", 56), "\x80" + zeros[:63] + zeros[:6] + "\x01\xc0"},
		{strings.Repeat("x", 63), "\x80" + zeros[:56] + zeros[:6] + "\x01\xf8"},
		{strings.Repeat("x", 64), "\x80" + zeros[:55] + zeros[:6] + "\x02\x00"},
		{strings.Repeat("x", 65), "\x80" + zeros[:54] + zeros[:6] + "\x02\x08"},
		{strings.Repeat("\x80", 119), "\x80" + zeros[:6] + "\x03\xb8"},
		{strings.Repeat("\x00", 120), "\x80" + zeros[:63] + zeros[:6] + "\x03\xc0"},
	} {
		if p, e := Pad(x.s); p != x.s+x.padding || e != api.OK {
			t.Errorf("Pad of %d bytes: % x, %d; want % x", len(x.s), p, e, x.s+x.padding)
		}
	}
}

func TestPadOfEachLength(t *testing.T) {
	for n := range 300 {
		checkPad(t, mixedBytes(n))
	}
	for _, n := range []int{8191, 8192, api.MaxBytes - 1, api.MaxBytes, api.MaxBytes + 1} {
		checkPad(t, mixedBytes(n))
	}
}

func TestPadLimit(t *testing.T) {
	greatest := mixedBytes(16 * api.MaxBytes)
	checkPad(t, greatest)
	checkPad(t, greatest[1:])
	for _, s := range []string{greatest + "\x00", greatest + "\x80", greatest + greatest} {
		if p, e := Pad(s); p != "" || e != api.ErrLimit {
			t.Errorf("Pad of %d bytes: %d bytes, %d", len(s), len(p), e)
		}
	}
}

func TestSumOfPublishedVectors(t *testing.T) {
	for _, x := range []struct{ s, sum string }{
		{"", "e3b0c44298fc1c149afbf4c8996fb92427ae41e4649b934ca495991b7852b855"},
		{"abc", "ba7816bf8f01cfea414140de5dae2223b00361a396177a9cb410ff61f20015ad"},
		{"abcdbcdecdefdefgefghfghighijhijkijkljklmklmnlmnomnopnopq",
			"248d6a61d20638b8e5c026930c3e6039a33ce45964ff2167f6ecedd419db06c1"},
		{"abcdefghbcdefghicdefghijdefghijkefghijklfghijklmghijklmn" +
			"hijklmnoijklmnopjklmnopqklmnopqrlmnopqrsmnopqrstnopqrstu",
			"cf5b16a778af8380036ce59e7b0492370b249b11e8f07a51afac45037afee9d1"},
		{"\xbd", "68325720aabd7c82f30f554b313d0570c95accbb7dc4b5aae11204c08ffe732b"},
		{"\xc9\x8c\x8e\x55", "7abc22c0ae5af26ce93dbb94433a0e0b2e119d014f8e7f65bd56c61ccccd9504"},
		{strings.Repeat("\x00", 55), "02779466cdec163811d078815c633f21901413081449002f24aa3e80f0b88ef7"},
		{strings.Repeat("\x00", 56), "d4817aa5497628e7c77e6b606107042bbba3130888c5f47a375e6179be789fbb"},
		{strings.Repeat("\x00", 57), "65a16cb7861335d5ace3c60718b5052e44660726da4cd13bb745381b235a1785"},
		{strings.Repeat("\x00", 64), "f5a5fd42d16a20302798ef6ed309979b43003d2320d9f0e8ea9831a92759fb4b"},
		{strings.Repeat("\x00", 1000), "541b3e9daa09b20bf85fa273e5cbd3e80185aa4ec298e765db87742b70138a53"},
		{strings.Repeat("A", 1000), "c2e686823489ced2017f6059b8b239318b6364f6dcd835d0a519105a1eadd6e4"},
		{strings.Repeat("U", 1005), "f4d62ddec0f3dd90ea1380fa16a5ff8dc4c54b21740650f24afc4120903552b0"},
		{strings.Repeat("a", 1000000), "cdc76e5c9914fb9281a1c7e284d73e67f1809a48a497200e046d39ccc7112cd0"},
		{strings.Repeat("\x00", 1000000), "d29751f2649b32ff572b5e0a9f541ea660a50f94ff0beedfb0b692b924cc8025"},
	} {
		want, err := hex.DecodeString(x.sum)
		if err != nil || len(want) != 32 {
			t.Fatal("not a sum:", x.sum)
		}
		checkSum(t, x.s, string(want))
	}
}

func TestSumOfEachLength(t *testing.T) {
	for n := range 600 {
		s := mixedBytes(n)
		checkSum(t, s, standard(s))
	}
}

func TestSumOfEachByte(t *testing.T) {
	for c := range 256 {
		for _, n := range []int{1, 55, 56, 63, 64, 65} {
			s := strings.Repeat(string([]byte{byte(c)}), n)
			checkSum(t, s, standard(s))
		}
	}
}

// Pad has a limit, and Sum has none.
func TestSumOfMoreThanPadTakes(t *testing.T) {
	s := mixedBytes(16*api.MaxBytes + 200)
	for _, n := range []int{16 * api.MaxBytes, 16*api.MaxBytes + 1, 16*api.MaxBytes + 55, 16*api.MaxBytes + 56, len(s)} {
		checkSum(t, s[:n], standard(s[:n]))
	}
	s = strings.Repeat(s, 4)
	checkSum(t, s, standard(s))
}

// Strings whose length in bits does not fit 32 bits are too long for a test of
// Sum itself.
func TestPaddingOfGreatLengths(t *testing.T) {
	for _, size := range []int{1<<21 + 3, 1<<24 + 3, 1<<29 - 61, 1<<29 + 3, 1<<31 - 61} {
		checkPadded(t, padded("end", size), "end", size)
	}
}

// P2.2

func TestPairOfKnownStrings(t *testing.T) {
	for _, x := range []struct{ a, b, text string }{
		{"", "", "\x01\x00\x00\x00\x00\x00\x00\x00\x00"},
		{"a", "", "\x01\x00\x00\x00\x01a\x00\x00\x00\x00"},
		{"", "a", "\x01\x00\x00\x00\x00\x00\x00\x00\x01a"},
		{"ab", "c", "\x01\x00\x00\x00\x02ab\x00\x00\x00\x01c"},
	} {
		if sum := Pair(x.a, x.b); sum != standard(x.text) {
			t.Errorf("Pair(%q, %q): %x", x.a, x.b, sum)
		}
	}
}

func TestPairOfEachLength(t *testing.T) {
	for n := range 130 {
		checkPair(t, mixedBytes(n), mixedBytes(130-n))
		checkPair(t, mixedBytes(n), "")
		checkPair(t, "", mixedBytes(n))
	}
}

func TestPairOfLengthsOfTwoToFourBytes(t *testing.T) {
	for _, n := range []int{255, 256, 0x1234, 65535, 65536, 0x12345, 1<<24 - 1, 1<<24 + 0x10203} {
		s := mixedBytes(n)
		checkPair(t, s, "after")
		checkPair(t, "before", s)
	}
}

func TestListOfKnownStrings(t *testing.T) {
	for _, x := range []struct {
		l    []string
		text string
	}{
		{nil, "\x02\x00\x00\x00\x00"},
		{[]string{}, "\x02\x00\x00\x00\x00"},
		{[]string{""}, "\x02\x00\x00\x00\x01\x00\x00\x00\x00"},
		{[]string{"", ""}, "\x02\x00\x00\x00\x02\x00\x00\x00\x00\x00\x00\x00\x00"},
		{[]string{"ab", ""}, "\x02\x00\x00\x00\x02\x00\x00\x00\x02ab\x00\x00\x00\x00"},
		{[]string{"a", "bc", "d"}, "\x02\x00\x00\x00\x03\x00\x00\x00\x01a\x00\x00\x00\x02bc\x00\x00\x00\x01d"},
	} {
		if sum := List(x.l); sum != standard(x.text) {
			t.Errorf("List(%q): %x", x.l, sum)
		}
	}
}

func TestListOfManyStrings(t *testing.T) {
	for _, n := range []int{1, 2, 3, 8, 255, 256, 257} {
		l := make([]string, n)
		for i := range l {
			l[i] = mixedBytes(i)
		}
		checkList(t, l)
	}
	// Numbers of strings that need a third byte.
	for _, n := range []int{65535, 65536, 0x12345} {
		text := "\x02" + length(n) + strings.Repeat("\x00\x00\x00\x00", n)
		if sum := List(make([]string, n)); sum != standard(text) {
			t.Errorf("List of %d empty strings: %x", n, sum)
		}
	}
	checkList(t, []string{"before", mixedBytes(1<<24 + 0x10203), mixedBytes(0x12345), "after"})
}

func TestListLeavesItsArgument(t *testing.T) {
	l := []string{"ab", "c", "beyond"}
	List(l[:2])
	if !slices.Equal(l, []string{"ab", "c", "beyond"}) {
		t.Errorf("%q", l)
	}
}

func TestShortIsTheBeginningOfSum(t *testing.T) {
	for n := range 200 {
		s := mixedBytes(n)
		if x := Short(s); x != standard(s)[:16] || len(x) != api.ChainBytes {
			t.Errorf("Short of %d bytes: %x", n, x)
		}
	}
	s := mixedBytes(16*api.MaxBytes + 1)
	if x := Short(s); x != standard(s)[:16] {
		t.Errorf("Short of %d bytes: %x", len(s), x)
	}
}

// Consequences

// distinct fails if another text of the seen ones has the same sum.
func distinct(t *testing.T, seen map[string]string, sum, text string) {
	t.Helper()
	if other, ok := seen[sum]; ok {
		t.Errorf("%s and %s have the same sum", other, text)
	}
	if len(sum) != 32 {
		t.Errorf("%s: a sum of %d bytes", text, len(sum))
	}
	seen[sum] = text
}

func TestBordersOfPairsAndLists(t *testing.T) {
	seen := map[string]string{}
	whole := "\x00\x00\x00\x01\x02ab\x00\x00\x00\x00"
	distinct(t, seen, Sum(whole), "the string")
	distinct(t, seen, List(nil), "no strings")
	distinct(t, seen, List([]string{whole}), "a list of the string")
	for i := range len(whole) + 1 {
		place := hex.EncodeToString([]byte(whole[:i]))
		distinct(t, seen, Pair(whole[:i], whole[i:]), "a pair that is divided after "+place)
		distinct(t, seen, List([]string{whole[:i], whole[i:]}), "a list that is divided after "+place)
		for j := i; j <= len(whole); j++ {
			places := place + " and " + hex.EncodeToString([]byte(whole[i:j]))
			distinct(t, seen, List([]string{whole[:i], whole[i:j], whole[j:]}), "a list that is divided after "+places)
		}
	}
}

func TestNumbersOfEmptyStrings(t *testing.T) {
	seen := map[string]string{}
	distinct(t, seen, Pair("", ""), "the pair")
	for n := range 300 {
		distinct(t, seen, List(make([]string, n)), "the list of "+hex.EncodeToString([]byte(length(n))))
	}
}

func TestOrderOfPairsAndLists(t *testing.T) {
	seen := map[string]string{}
	for _, l := range [][]string{{"x", "y", "z"}, {"x", "z", "y"}, {"y", "x", "z"}, {"y", "z", "x"}, {"z", "x", "y"}, {"z", "y", "x"}} {
		distinct(t, seen, List(l), "list "+strings.Join(l, ","))
		distinct(t, seen, Pair(l[0], l[1]), "pair "+l[0]+","+l[1])
	}
}

// FuzzAll looks for strings that break a promise of the chapter.
func FuzzAll(f *testing.F) {
	for _, s := range []string{"", "abc", "\x80", "\x00\x00\x00\x01a", strings.Repeat("x", 55), strings.Repeat("x", 64)} {
		f.Add(s, "")
		f.Add("ab", s)
	}
	f.Fuzz(func(t *testing.T, a, b string) {
		checkSum(t, a, standard(a))
		checkPad(t, a)
		checkPair(t, a, b)
		checkList(t, []string{a, b, a})
		if Short(b) != standard(b)[:16] {
			t.Errorf("Short of %d bytes", len(b))
		}
	})
}
