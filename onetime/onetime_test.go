package onetime

import (
	"crypto/sha256"
	"encoding/binary"
	"encoding/hex"
	"math"
	"slices"
	"strconv"
	"strings"
	"testing"

	"keyevent/api"
)

// The definition, as the chapter has it

func sumOf(s string) string {
	sum := sha256.Sum256([]byte(s))
	return string(sum[:])
}

func shortOf(s string) string {
	return sumOf(s)[:16]
}

// digitsOfBytes is the definition of the digits of the first 8 bytes of a sum.
func digitsOfBytes(s string) []int {
	number := binary.BigEndian.Uint64([]byte(s))
	var digits []int
	for range 32 {
		digits = append(digits, int(number%4))
		number /= 4
	}
	slices.Reverse(digits)
	rest := 96
	for _, digit := range digits {
		rest -= digit
	}
	return append(digits, rest/64, rest/16%4, rest/4%4, rest%4)
}

func digitsOfMessage(message string) []int {
	return digitsOfBytes(sumOf(message)[:8])
}

// modulo returns n modulo 256, from 0 on.
func modulo(n int) string {
	return string([]byte{byte((n%256 + 256) % 256)})
}

func stepOf(value string, chain, step int) string {
	return shortOf(value + modulo(chain) + modulo(step))
}

func secretOf(seed string, chain int) string {
	return shortOf(seed + "\x80" + modulo(chain))
}

// chainOf returns the values of a chain, from its secret to its end.
func chainOf(seed string, chain int) [4]string {
	values := [4]string{secretOf(seed, chain)}
	for p := range 3 {
		values[p+1] = stepOf(values[p], chain, p)
	}
	return values
}

func publicOf(seed string) string {
	ends := ""
	for chain := range 36 {
		ends += chainOf(seed, chain)[3]
	}
	return shortOf(ends)
}

func signatureOf(seed, message string) string {
	values := ""
	for chain, digit := range digitsOfMessage(message) {
		values += chainOf(seed, chain)[digit]
	}
	return values
}

func recoveredOf(message, values string) string {
	ends := ""
	for chain, digit := range digitsOfMessage(message) {
		value := values[16*chain : 16*chain+16]
		for p := digit; p < 3; p++ {
			value = stepOf(value, chain, p)
		}
		ends += value
	}
	return shortOf(ends)
}

// Samples

// mixedBytes returns n bytes in which all values occur.
func mixedBytes(n int) string {
	b := make([]byte, n)
	for i := range b {
		b[i] = byte(i*i*31 + i>>3 + 7*n)
	}
	return string(b)
}

func samples() []string {
	return []string{
		"", "\x00", "\x80", "\xff", "a", "abc", "seed", "message", "grüße", "a\x80\x00", "\x03\x01",
		mixedBytes(16), mixedBytes(31), mixedBytes(32), mixedBytes(64), mixedBytes(576), mixedBytes(api.MaxBytes + 1),
	}
}

// numbers are numbers below 0, up to 255, and beyond.
func numbers() []int {
	l := []int{math.MinInt, math.MinInt + 1, math.MaxInt - 1, math.MaxInt, -65536, 65535, 65536, 1 << 30}
	for _, n := range []int{-512, -256, 0, 3, 35, 36, 128, 256, 512} {
		l = append(l, n-1, n, n+1)
	}
	return l
}

// messagesOfAllDigits returns messages of which each digit has each value that
// the digit at its place can have.
func messagesOfAllDigits() []string {
	var messages []string
	seen := map[[2]int]bool{}
	for i := 0; len(seen) < 35*4+2; i++ {
		message := "message " + strconv.Itoa(i)
		before := len(seen)
		for chain, digit := range digitsOfMessage(message) {
			seen[[2]int{chain, digit}] = true
		}
		if len(seen) > before {
			messages = append(messages, message)
		}
	}
	return messages
}

func unhex(t *testing.T, s string) string {
	t.Helper()
	b, err := hex.DecodeString(s)
	if err != nil {
		t.Fatal("no hexadecimal digits:", s)
	}
	return string(b)
}

// Checks of each function against the definition

func checkDigits(t *testing.T, message string) {
	t.Helper()
	if digits, want := Digits(message), digitsOfMessage(message); !slices.Equal(digits, want) {
		t.Errorf("Digits of %d bytes %.24q: %v; want %v", len(message), message, digits, want)
	}
}

func checkStep(t *testing.T, value string, chain, step int) {
	t.Helper()
	if x, want := Step(value, chain, step), stepOf(value, chain, step); x != want {
		t.Errorf("Step from %d bytes %.24q, chain %d, step %d: %x; want %x", len(value), value, chain, step, x, want)
	}
}

func checkSecret(t *testing.T, seed string, chain int) {
	t.Helper()
	if x, want := Secret(seed, chain), secretOf(seed, chain); x != want {
		t.Errorf("Secret of %d bytes %.24q, chain %d: %x; want %x", len(seed), seed, chain, x, want)
	}
}

func checkPublic(t *testing.T, seed string) {
	t.Helper()
	if x, want := Public(seed), publicOf(seed); x != want {
		t.Errorf("Public of %d bytes %.24q: %x; want %x", len(seed), seed, x, want)
	}
}

func checkSign(t *testing.T, seed, message string) {
	t.Helper()
	values := Sign(seed, message)
	if len(values) != api.Chains*api.ChainBytes || values != signatureOf(seed, message) {
		t.Errorf("Sign by %.24q of %.24q: %d bytes, %.16x..", seed, message, len(values), values)
	}
}

func checkRecover(t *testing.T, message, values string) {
	t.Helper()
	x, e := Recover(message, values)
	if want := recoveredOf(message, values); x != want || e != api.OK {
		t.Errorf("Recover of %.24q from %.8x..: %x, %d; want %x", message, values, x, e, want)
	}
}

// P11.1

func TestDigitsOfKnownMessages(t *testing.T) {
	for _, x := range []struct{ message, digits string }{
		{"", "320323003010100221203330013001100320"},
		{"a", "302221132001010230220123233130220233"},
		{"abc", "232213200112233320330001303332220213"},
		{"message", "222311030022010332101121011021200320"},
	} {
		text := ""
		for _, digit := range Digits(x.message) {
			text += strconv.Itoa(digit)
		}
		if text != x.digits {
			t.Errorf("Digits of %q: %s; want %s", x.message, text, x.digits)
		}
	}
}

func TestDigitsOfManyMessages(t *testing.T) {
	for _, message := range slices.Concat(samples(), messagesOfAllDigits()) {
		checkDigits(t, message)
	}
	for n := range 1000 {
		checkDigits(t, mixedBytes(n))
	}
}

func TestDigitsAreOnePerChain(t *testing.T) {
	for _, message := range messagesOfAllDigits() {
		digits := Digits(message)
		if len(digits) != api.Chains || slices.Min(digits) < 0 || slices.Max(digits) > api.Steps {
			t.Errorf("Digits of %q: %v", message, digits)
		}
	}
}

// No message is known whose sum begins like these.
func TestDigitsOfKnownBytes(t *testing.T) {
	digits := func(first, second int, complement ...int) []int {
		var l []int
		for range 16 {
			l = append(l, first, second)
		}
		return append(l, complement...)
	}
	for _, x := range []struct {
		bytes  string
		digits []int
	}{
		{strings.Repeat("\x00", 8), digits(0, 0, 1, 2, 0, 0)},
		{strings.Repeat("\xff", 8), digits(3, 3, 0, 0, 0, 0)},
		{strings.Repeat("\x55", 8), digits(1, 1, 1, 0, 0, 0)},
		{strings.Repeat("\xaa", 8), digits(2, 2, 0, 2, 0, 0)},
		{strings.Repeat("\x33", 8), digits(0, 3, 0, 3, 0, 0)},
		{strings.Repeat("\xcc", 8), digits(3, 0, 0, 3, 0, 0)},
		{strings.Repeat("\x66", 8), digits(1, 2, 0, 3, 0, 0)},
	} {
		if l := digitsOf(x.bytes); !slices.Equal(l, x.digits) {
			t.Errorf("the digits of % x: %v; want %v", x.bytes, l, x.digits)
		}
	}
}

// Each complement from 96 to 0, with the digits that are not 0 at either side.
func TestEachComplement(t *testing.T) {
	for size := range 97 {
		digits := make([]int, 32)
		for i := range size {
			digits[i/3]++
		}
		for range 2 {
			number := uint64(0)
			for _, digit := range digits {
				number = 4*number + uint64(digit)
			}
			rest := 96 - size
			want := append(slices.Clone(digits), rest/64, rest/16%4, rest/4%4, rest%4)
			bytes := string(binary.BigEndian.AppendUint64(nil, number))
			if l := digitsOf(bytes); !slices.Equal(l, want) {
				t.Errorf("the digits of % x: %v; want %v", bytes, l, want)
			}
			slices.Reverse(digits)
		}
	}
}

func TestEachByteHasItsDigits(t *testing.T) {
	for place := range 8 {
		for c := range 256 {
			b := []byte("keyevent")
			b[place] = byte(c)
			if l, want := digitsOf(string(b)), digitsOfBytes(string(b)); !slices.Equal(l, want) {
				t.Errorf("the digits of % x: %v; want %v", b, l, want)
			}
		}
	}
}

func TestDigitsShareNoMemory(t *testing.T) {
	digits := Digits("abc")
	clear(digits[:cap(digits)])
	checkDigits(t, "abc")
}

func TestKnownSteps(t *testing.T) {
	for _, x := range []struct {
		value       string
		chain, step int
		want        string
	}{
		{"", 0, 0, "96a296d224f285c67bee93c30f8a3091"},
		{"value", 3, 1, "b94a4e22020efa66f409e4c4de15b60b"},
		{"value", 259, -255, "b94a4e22020efa66f409e4c4de15b60b"},
		{"value", -1, -1, "689ccc47f835eb9d8f73142b19ce0e14"},
		{"value", 255, 255, "689ccc47f835eb9d8f73142b19ce0e14"},
		{strings.Repeat("\x00", 16), 35, 2, "05852390dfe947aa02d12a16ca9cc34b"},
	} {
		if s := Step(x.value, x.chain, x.step); s != unhex(t, x.want) {
			t.Errorf("Step(%q, %d, %d): %x; want %s", x.value, x.chain, x.step, s, x.want)
		}
	}
}

func TestStepOfManyNumbers(t *testing.T) {
	for _, chain := range numbers() {
		for _, step := range numbers() {
			checkStep(t, "value", chain, step)
		}
	}
	for n := -300; n <= 600; n++ {
		checkStep(t, "", n, 2)
		checkStep(t, "", 2, n)
	}
}

func TestStepOfManyValues(t *testing.T) {
	for _, value := range samples() {
		checkStep(t, value, 0, 0)
		checkStep(t, value, 35, 2)
		checkStep(t, value, -35, 1000)
	}
}

// One step after the other leads along a chain.
func TestSeveralSteps(t *testing.T) {
	for _, chain := range []int{0, 1, 35} {
		values := chainOf("seed", chain)
		x := Secret("seed", chain)
		for p := range 3 {
			x = Step(x, chain, p)
			if x != values[p+1] {
				t.Errorf("chain %d after %d steps: %x; want %x", chain, p+1, x, values[p+1])
			}
		}
	}
}

// Each chain and each position has a step of its own.
func TestStepsDiffer(t *testing.T) {
	seen := map[string]bool{}
	for chain := range 256 {
		for step := range 256 {
			seen[Step("value", chain, step)] = true
		}
	}
	if len(seen) != 256*256 {
		t.Errorf("%d steps from one value", len(seen))
	}
}

// P11.2

func TestKnownSecrets(t *testing.T) {
	for _, x := range []struct {
		seed  string
		chain int
		want  string
	}{
		{"", 0, "8509b81230019d2ad970d970f791dfbd"},
		{"seed", 35, "1d4bc1669271c46191a2c5f7929adf3d"},
		{"seed", -1, "6563acfd6e0b53096eb69b7a1b1eab24"},
		{"seed", 255, "6563acfd6e0b53096eb69b7a1b1eab24"},
		{"seed", 256, "f688fecb15adb31582e2d4c4fd7b915e"},
		{"seed", 0, "f688fecb15adb31582e2d4c4fd7b915e"},
	} {
		if s := Secret(x.seed, x.chain); s != unhex(t, x.want) {
			t.Errorf("Secret(%q, %d): %x; want %s", x.seed, x.chain, s, x.want)
		}
	}
}

func TestManySecrets(t *testing.T) {
	for _, seed := range samples() {
		for _, chain := range numbers() {
			checkSecret(t, seed, chain)
		}
	}
	for chain := -300; chain <= 600; chain++ {
		checkSecret(t, "seed", chain)
	}
}

func TestSecretsDiffer(t *testing.T) {
	seen := map[string]bool{}
	for _, seed := range samples() {
		for chain := range 256 {
			seen[Secret(seed, chain)] = true
		}
	}
	if len(seen) != 256*len(samples()) {
		t.Errorf("%d secrets", len(seen))
	}
}

func TestKnownPublicValues(t *testing.T) {
	for _, x := range []struct{ seed, want string }{
		{"", "f5247dd1b919f5ca27284afd4c00a221"},
		{"seed", "53ec8daa2c52316816652141097df9c5"},
		{unhex(t, "000102030405060708090a0b0c0d0e0f101112131415161718191a1b1c1d1e1f"), "1a847292d24eed748ac8261f23b11175"},
	} {
		if s := Public(x.seed); s != unhex(t, x.want) {
			t.Errorf("Public(%q): %x; want %s", x.seed, s, x.want)
		}
	}
}

func TestManyPublicValues(t *testing.T) {
	for _, seed := range samples() {
		checkPublic(t, seed)
	}
	for n := range 100 {
		checkPublic(t, mixedBytes(n))
	}
}

// The sums of signatures, and their first and last values, were computed elsewhere.
func TestKnownSignatures(t *testing.T) {
	for _, x := range []struct{ seed, message, sum, first, last string }{
		{"", "", "80b9970eead1d15d58a51766fefff943c1ec3a5568bc2e32f13c352e91fb8596",
			"afcaa69ff927a3894b298f47e80e0af4", "170141884d7283bd72c9f96c892a1581"},
		{"", "abc", "66769d447f22a2db856da2d1427056e2a59d5e4205b5e24ed1a2af72d07f4a80",
			"41e0d46fe76af75859c147a31dff87e6", "7fdc3896c880476e229a873848cbf2d7"},
		{"seed", "", "4a9a971293a5e85586d712e6b760b0a9189d544867237c446402d07a2bca06cc",
			"4cd365ad2ccd50b7fb3577e97be02b9a", "1d4bc1669271c46191a2c5f7929adf3d"},
		{"seed", "abc", "2921302d09afcf7b9c081c041a92eef78f942dd4b9be78b17b81317bf33f07ff",
			"32641d62d18f28413f7edf9db16c9633", "8146fc9f8e261f1a365da76f776b49f1"},
	} {
		values := Sign(x.seed, x.message)
		if len(values) != 576 || sumOf(values) != unhex(t, x.sum) {
			t.Errorf("Sign(%q, %q): %d bytes, %x", x.seed, x.message, len(values), values)
		}
		if !strings.HasPrefix(values, unhex(t, x.first)) || !strings.HasSuffix(values, unhex(t, x.last)) {
			t.Errorf("Sign(%q, %q): %x", x.seed, x.message, values)
		}
	}
}

func TestManySignatures(t *testing.T) {
	for _, message := range slices.Concat(samples(), messagesOfAllDigits()) {
		checkSign(t, "seed", message)
	}
	for _, seed := range samples() {
		checkSign(t, seed, "")
		checkSign(t, seed, "message")
	}
}

// Where a digit is 0, the signature has the secret, and where it is 3, the end
// of the chain.
func TestSignaturesAtTheDigits0And3(t *testing.T) {
	count := map[int]int{}
	for _, message := range messagesOfAllDigits() {
		values := Sign("seed", message)
		for chain, digit := range Digits(message) {
			value := values[16*chain : 16*chain+16]
			if (value == Secret("seed", chain)) != (digit == 0) {
				t.Errorf("%q, chain %d: the value is %x with the digit %d", message, chain, value, digit)
			}
			if (value == chainOf("seed", chain)[3]) != (digit == 3) {
				t.Errorf("%q, chain %d: the value is %x with the digit %d", message, chain, value, digit)
			}
			count[digit]++
		}
	}
	if count[0] == 0 || count[3] == 0 {
		t.Error("no message has such digits")
	}
}

// P11.3

func TestRecoverOfKnownValues(t *testing.T) {
	mixed := make([]byte, 576)
	for i := range mixed {
		mixed[i] = byte(7 * i)
	}
	zeros := strings.Repeat("\x00", 576)
	for _, x := range []struct{ message, values, want string }{
		{"", zeros, "5b58b96b1fff7857e2eb4f5f13b7f87e"},
		{"", string(mixed), "3a65c7a97aa91b7e43b701557d23e233"},
		{"abc", zeros, "ecf72deafd2b0d110006b6ab7b009ea6"},
		{"abc", string(mixed), "ddf112b09f0635adbbd0568f5c863433"},
	} {
		if s, e := Recover(x.message, x.values); s != unhex(t, x.want) || e != api.OK {
			t.Errorf("Recover(%q, %.4x..): %x, %d; want %s", x.message, x.values, s, e, x.want)
		}
	}
}

func TestRecoverOfManyValues(t *testing.T) {
	for _, message := range slices.Concat(samples(), messagesOfAllDigits()) {
		checkRecover(t, message, mixedBytes(576))
		checkRecover(t, message, strings.Repeat("\xff", 576))
		checkRecover(t, message, Sign("seed", "another message"))
	}
}

// Each size that is wrong, whether the values are part of a signature or not.
func TestRecoverOfAnotherSize(t *testing.T) {
	values := Sign("seed", "message")
	wrong := []string{"", values[:575], values[1:], values + "\x00", "\x00" + values, values[:560], values + values[:16], values + values}
	for n := range 1200 {
		if n != 576 {
			wrong = append(wrong, mixedBytes(n))
		}
	}
	wrong = append(wrong, mixedBytes(api.SigBytes), mixedBytes(api.MaxBytes), mixedBytes(1<<16+576))
	for _, bad := range wrong {
		for _, message := range []string{"", "message"} {
			if s, e := Recover(message, bad); s != "" || e != api.ErrSize {
				t.Errorf("Recover(%q) from %d bytes: %x, %d", message, len(bad), s, e)
			}
		}
	}
}

func TestRecoverOfASignatureWithAByteChanged(t *testing.T) {
	public := Public("seed")
	values := Sign("seed", "message")
	for place := range len(values) {
		for _, change := range []byte{1, 128, 255} {
			b := []byte(values)
			b[place] ^= change
			checkRecover(t, "message", string(b))
			if s, e := Recover("message", string(b)); s == public || e != api.OK {
				t.Errorf("with byte %d changed: %x, %d", place, s, e)
			}
		}
	}
}

func TestRecoverOfValuesInAnotherOrder(t *testing.T) {
	public := Public("seed")
	values := Sign("seed", "message")
	for chain := range 35 {
		at := 16 * chain
		swapped := values[:at] + values[at+16:at+32] + values[at:at+16] + values[at+32:]
		if s, e := Recover("message", swapped); s == public || e != api.OK {
			t.Errorf("with the values %d and %d swapped: %x, %d", chain, chain+1, s, e)
		}
	}
}

// Consequences

func TestRecoverOfSignIsPublic(t *testing.T) {
	for _, seed := range samples() {
		public := Public(seed)
		for _, message := range samples() {
			if s, e := Recover(message, Sign(seed, message)); s != public || e != api.OK {
				t.Errorf("seed %.24q, message %.24q: %x, %d; want %x", seed, message, s, e, public)
			}
		}
	}
	public := Public("seed")
	for _, message := range messagesOfAllDigits() {
		if s, e := Recover(message, Sign("seed", message)); s != public || e != api.OK {
			t.Errorf("message %q: %x, %d; want %x", message, s, e, public)
		}
	}
}

// eachHasALess reports whether each of two lists has a digit that is less than
// that of the other one.
func eachHasALess(a, b []int) bool {
	aLess, bLess := false, false
	for i := range a {
		aLess = aLess || a[i] < b[i]
		bLess = bLess || b[i] < a[i]
	}
	return aLess && bLess
}

func TestDifferentDigitsOfMessages(t *testing.T) {
	messages := slices.Concat(samples(), messagesOfAllDigits())
	for i, a := range messages {
		for _, b := range messages[:i] {
			if !eachHasALess(Digits(a), Digits(b)) {
				t.Errorf("the digits of %.24q and of %.24q", a, b)
			}
		}
	}
}

// Bytes with a few digits that are greater: only the complement is less.
func TestDifferentDigitsOfBytes(t *testing.T) {
	digits := func(number uint64) []int {
		return digitsOf(string(binary.BigEndian.AppendUint64(nil, number)))
	}
	for _, number := range []uint64{0, 0x5555555555555555, 0x0123456789abcdef, 0x1111111111111111} {
		for i := range 32 {
			for j := range 32 {
				greater := number | 1<<(2*i) | 1<<(2*j+1)
				if greater != number && !eachHasALess(digits(number), digits(greater)) {
					t.Errorf("the digits of %x and of %x", number, greater)
				}
			}
		}
	}
}

// Whoever has a signature can go on along the chains, but never back: for
// another message, a value is missing.
func TestASignatureIsOfOneMessage(t *testing.T) {
	public := Public("seed")
	messages := messagesOfAllDigits()
	for i, a := range messages {
		values := Sign("seed", a)
		for j, b := range messages {
			if s, e := Recover(b, values); (s == public) != (i == j) || e != api.OK {
				t.Errorf("the signature of %q for %q: %x, %d", a, b, s, e)
			}
			if forged := goOn(values, Digits(a), Digits(b)); (forged == Sign("seed", b)) != (i == j) {
				t.Errorf("the signature of %q leads to that of %q", a, b)
			}
		}
	}
}

// goOn takes the values of a signature along their chains as far as the digits
// of another one ask for.
func goOn(values string, from, to []int) string {
	gone := ""
	for chain := range from {
		value := values[16*chain : 16*chain+16]
		for p := from[chain]; p < to[chain]; p++ {
			value = stepOf(value, chain, p)
		}
		gone += value
	}
	return gone
}

func TestASignatureIsOfOneSeed(t *testing.T) {
	seen := map[string]bool{}
	for _, seed := range samples() {
		values := Sign(seed, "message")
		public, _ := Recover("message", values)
		seen[values], seen[public] = true, true
	}
	if len(seen) != 2*len(samples()) {
		t.Errorf("%d signatures and public values", len(seen))
	}
}

// Rule 1

func TestResultsDependOnArgumentsAlone(t *testing.T) {
	first := Sign("seed", "message")
	public := Public("seed")
	Sign("another seed", "another message")
	Recover("another message", mixedBytes(576))
	if Sign("seed", "message") != first || Public("seed") != public {
		t.Error("another result of the same arguments")
	}
}

// FuzzAll looks for strings and numbers that break a promise of the chapter.
func FuzzAll(f *testing.F) {
	f.Add("", "", "", 0, 0)
	f.Add("seed", "message", Sign("seed", "message"), -1, 256)
	f.Add(mixedBytes(32), mixedBytes(100), mixedBytes(575), math.MaxInt, math.MinInt)
	f.Fuzz(func(t *testing.T, seed, message, values string, chain, step int) {
		checkDigits(t, message)
		checkStep(t, values, chain, step)
		checkSecret(t, seed, chain)
		checkPublic(t, seed)
		checkSign(t, seed, message)
		if s, e := Recover(message, Sign(seed, message)); s != Public(seed) || e != api.OK {
			t.Errorf("Recover of Sign: %x, %d", s, e)
		}
		if len(values) == 576 {
			checkRecover(t, message, values)
		} else if s, e := Recover(message, values); s != "" || e != api.ErrSize {
			t.Errorf("Recover from %d bytes: %x, %d", len(values), s, e)
		}
	})
}
