// Package base64 is layer 1: bytes as text. See doc/01-base64.md.
package base64

import "keyevent/api"

const (
	alphabet  = "ABCDEFGHIJKLMNOPQRSTUVWXYZabcdefghijklmnopqrstuvwxyz0123456789-_"
	digitBits = 6
	digitMask = 1<<digitBits - 1
	maxDigits = 8 // of a number

	// A block is the shortest run of bytes that fills whole digits.
	blockBytes  = 3
	blockDigits = 4
)

// values has, for each character, 1 more than the number of the digit that it
// is, so that 0 is left for the characters that are no digits. It stops at 128
// because all digits are below.
var values = valuesOf(alphabet)

func valuesOf(text string) [128]byte {
	var table [128]byte
	for n := range len(text) {
		table[text[n]] = byte(n + 1)
	}
	return table
}

// Digit returns the digit with the number n.
func Digit(n int) (byte, api.Errno) {
	if n < 0 || n >= len(alphabet) {
		return 0, api.ErrRange
	}
	return alphabet[n], api.OK
}

// Value returns the number of the digit c, and whether c is a digit.
func Value(c byte) (int, bool) {
	if int(c) >= len(values) || values[c] == 0 {
		return 0, false
	}
	return int(values[c]) - 1, true
}

// Encode returns the text of the bytes s, four digits for each three bytes.
func Encode(s string) (string, api.Errno) {
	if len(s) > api.MaxBytes {
		return "", api.ErrLimit
	}
	if len(s)%blockBytes != 0 {
		return "", api.ErrSize
	}
	blocks := len(s) / blockBytes
	text := make([]byte, 0, blocks*blockDigits)
	for i := range blocks {
		b := s[i*blockBytes : (i+1)*blockBytes]
		n := int(b[0])<<16 | int(b[1])<<8 | int(b[2])
		text = appendDigits(text, n, blockDigits)
	}
	return string(text), api.OK
}

// Decode returns the bytes of which text is the text.
func Decode(text string) (string, api.Errno) {
	if len(text) > 2*api.MaxBytes {
		return "", api.ErrLimit
	}
	if len(text)%blockDigits != 0 {
		return "", api.ErrSize
	}
	blocks := len(text) / blockDigits
	s := make([]byte, 0, blocks*blockBytes)
	for i := range blocks {
		n, ok := readDigits(text[i*blockDigits : (i+1)*blockDigits])
		if !ok {
			return "", api.ErrForm
		}
		s = append(s, byte(n>>16), byte(n>>8), byte(n))
	}
	return string(s), api.OK
}

// Number returns n in so many digits, the highest one first.
func Number(n, digits int) (string, api.Errno) {
	if digits < 1 || digits > maxDigits {
		return "", api.ErrRange
	}
	if n < 0 || uint64(n)>>(digitBits*digits) != 0 {
		return "", api.ErrRange
	}
	var text [maxDigits]byte
	return string(appendDigits(text[:0], n, digits)), api.OK
}

// Parse returns the number of a text of digits.
func Parse(text string) (int, api.Errno) {
	if len(text) < 1 || len(text) > maxDigits {
		return 0, api.ErrSize
	}
	n, ok := readDigits(text)
	if !ok {
		return 0, api.ErrForm
	}
	return n, api.OK
}

// appendDigits appends the lowest count digits of n to text, the highest one
// first.
func appendDigits(text []byte, n, count int) []byte {
	for i := range count {
		shift := digitBits * (count - 1 - i)
		text = append(text, alphabet[n>>shift&digitMask])
	}
	return text
}

// readDigits returns the number of a text of at most maxDigits digits, and
// whether all of its characters are digits.
func readDigits(text string) (int, bool) {
	n := 0
	for i := range len(text) {
		v, ok := Value(text[i])
		if !ok {
			return 0, false
		}
		n = n<<digitBits | v
	}
	return n, true
}
