package keytree

import (
	"crypto/sha256"
	"encoding/base64"
	"encoding/hex"
	"math"
	"slices"
	"strings"
	"testing"

	"keyevent/api"
)

// The definition, as the chapter has it, and that of the one-time signatures
// below it

func sumOf(s string) string {
	sum := sha256.Sum256([]byte(s))
	return string(sum[:])
}

func shortOf(s string) string {
	return sumOf(s)[:16]
}

// modulo returns the byte of n modulo 256, from 0 on.
func modulo(n int) string {
	return string([]byte{byte((n%256 + 256) % 256)})
}

func digitsOfMessage(message string) []int {
	var digits []int
	rest := 96
	for _, c := range []byte(sumOf(message)[:8]) {
		for _, digit := range []byte{c / 64, c / 16 % 4, c / 4 % 4, c % 4} {
			digits = append(digits, int(digit))
			rest -= int(digit)
		}
	}
	return append(digits, rest/64, rest/16%4, rest/4%4, rest%4)
}

// stepsOf returns what the steps of a chain from one position to another lead to.
func stepsOf(value string, chain, from, to int) string {
	for p := from; p < to; p++ {
		value = shortOf(value + modulo(chain) + modulo(p))
	}
	return value
}

// valuesOf returns the value of each chain of a seed at its position.
func valuesOf(seed string, positions []int) string {
	values := ""
	for chain, position := range positions {
		values += stepsOf(shortOf(seed+"\x80"+modulo(chain)), chain, 0, position)
	}
	return values
}

// recoveredOf returns the public value to which the values lead with message.
func recoveredOf(message, values string) string {
	ends := ""
	for chain, digit := range digitsOfMessage(message) {
		ends += stepsOf(values[16*chain:16*chain+16], chain, digit, 3)
	}
	return shortOf(ends)
}

func seedOfUse(seed string, use int) string {
	return sumOf(seed + modulo(use))
}

func leafOfUse(seed string, use int) string {
	ends := valuesOf(seedOfUse(seed, use), slices.Repeat([]int{3}, 36))
	return shortOf("\x00" + shortOf(ends))
}

// levelsOf returns the levels of the tree with these leaves, the lowest first.
func levelsOf(leaves []string) [][]string {
	levels := [][]string{leaves}
	for len(leaves) > 1 {
		var nodes []string
		for i := 0; i < len(leaves); i += 2 {
			nodes = append(nodes, shortOf("\x01"+leaves[i]+leaves[i+1]))
		}
		levels = append(levels, nodes)
		leaves = nodes
	}
	return levels
}

func leavesOf(seed string) []string {
	var leaves []string
	for use := range 8 {
		leaves = append(leaves, leafOfUse(seed, use))
	}
	return leaves
}

func publicOf(seed string) string {
	return sumOf("\x02" + levelsOf(leavesOf(seed))[3][0])
}

// textOf returns the text of the primitive of 32 bytes with this character.
func textOf(code, raw string) string {
	return code + base64.URLEncoding.EncodeToString([]byte("\x00" + raw))[1:]
}

func signatureOf(seed string, use int, message string) string {
	raw := modulo(use) + valuesOf(seedOfUse(seed, use), digitsOfMessage(message))
	for level, nodes := range levelsOf(leavesOf(seed))[:3] {
		// The numbers of two nodes side by side differ in their last bit.
		raw += nodes[(use>>level)^1]
	}
	return raw
}

// keyOfSignature returns the public key to which 625 bytes lead.
func keyOfSignature(message, raw string) string {
	node := shortOf("\x00" + recoveredOf(message, raw[1:577]))
	for level := range 3 {
		other := raw[577+16*level : 593+16*level]
		if raw[0]>>level%2 == 0 {
			node = shortOf("\x01" + node + other)
		} else {
			node = shortOf("\x01" + other + node)
		}
	}
	return sumOf("\x02" + node)
}

func verifiedOf(key, message, raw string) bool {
	if len(raw) != 625 || raw[0] > 7 {
		return false
	}
	public := keyOfSignature(message, raw)
	return key == textOf("D", public) || key == textOf("B", public)
}

// Samples

// mixedBytes returns n bytes in which all values occur.
func mixedBytes(n int) string {
	b := make([]byte, n)
	for i := range b {
		b[i] = byte(i*i*31 + i>>3 + 7*n)
	}
	return string(b)
}

func samples() []string {
	return []string{
		"", "\x00", "\x07", "\xff", "a", "seed", "seed\x00", "message", "grüße", "a\x80\x00",
		mixedBytes(16), mixedBytes(32), mixedBytes(63), mixedBytes(64), mixedBytes(api.MaxBytes + 1),
	}
}

// wrongUses are below 0, and of KeyUses and more; some are modulo 8 or 256 what
// a use is.
func wrongUses() []int {
	return []int{
		-1, -2, -7, -8, -9, -255, -256, -257, math.MinInt, math.MinInt + 1,
		8, 9, 15, 16, 127, 128, 255, 256, 257, 263, 264, 65536, 1 << 32, 1 << 40, math.MaxInt - 1, math.MaxInt,
	}
}

func unhex(t *testing.T, s string) string {
	t.Helper()
	b, err := hex.DecodeString(s)
	if err != nil {
		t.Fatal("no hexadecimal digits:", s)
	}
	return string(b)
}

// signed returns the signature of message by a use of seed.
func signed(t *testing.T, seed string, use int, message string) string {
	t.Helper()
	raw, e := Sign(seed, use, message)
	if e != api.OK || len(raw) != api.SigBytes {
		t.Fatalf("Sign by %.24q, use %d, of %.24q: %d bytes, %d", seed, use, message, len(raw), e)
	}
	return raw
}

// changed returns raw with the bits of one byte changed.
func changed(raw string, place int, bits byte) string {
	return raw[:place] + string([]byte{raw[place] ^ bits}) + raw[place+1:]
}

// Checks of each function against the definition

func checkLeaf(t *testing.T, seed string, use int) {
	t.Helper()
	if x, want := Leaf(seed, use), leafOfUse(seed, use); x != want {
		t.Errorf("Leaf of %d bytes %.24q, use %d: %x; want %x", len(seed), seed, use, x, want)
	}
}

func checkKeys(t *testing.T, seed string) {
	t.Helper()
	public := publicOf(seed)
	if x := Public(seed); x != public {
		t.Errorf("Public of %d bytes %.24q: %x; want %x", len(seed), seed, x, public)
	}
	if x, want := Key(seed), textOf("D", public); x != want {
		t.Errorf("Key of %d bytes %.24q: %q; want %q", len(seed), seed, x, want)
	}
	if x, want := Witness(seed), textOf("B", public); x != want {
		t.Errorf("Witness of %d bytes %.24q: %q; want %q", len(seed), seed, x, want)
	}
}

func checkSign(t *testing.T, seed string, use int, message string) {
	t.Helper()
	raw, e := Sign(seed, use, message)
	if use < 0 || use > 7 {
		if raw != "" || e != api.ErrUsed {
			t.Errorf("Sign by %.24q, use %d, of %.24q: %d bytes, %d; want ErrUsed", seed, use, message, len(raw), e)
		}
		return
	}
	if raw != signatureOf(seed, use, message) || e != api.OK {
		t.Errorf("Sign by %.24q, use %d, of %.24q: %d bytes, %.16x.., %d", seed, use, message, len(raw), raw, e)
	}
}

func checkVerify(t *testing.T, key, message, raw string) {
	t.Helper()
	if ok, want := Verify(key, message, raw), verifiedOf(key, message, raw); ok != want {
		t.Errorf("Verify with %.60q of %.24q, %d bytes %.8x..: %v; want %v", key, message, len(raw), raw, ok, want)
	}
}

// checkFalse checks that raw is no signature of message with key.
func checkFalse(t *testing.T, what, key, message, raw string) {
	t.Helper()
	if Verify(key, message, raw) {
		t.Errorf("Verify with %s is true: key %.60q, message %.24q, %d bytes %.8x..", what, key, message, len(raw), raw)
	}
}

// P12.1

// Computed elsewhere.
func TestKnownLeaves(t *testing.T) {
	for _, x := range []struct {
		seed   string
		leaves []string
	}{
		{"", []string{
			"314be63ab9617c4b97402b939c16d5e5", "9b22ef14d04522b2d9e5aab03e46fbe2",
			"6e6c0f37cbb3f5b1f4f5a99e219b8b71", "d631c4e7dbe0ce06197e97240b93d74a",
			"b136e8d93a88a6788056aa54fd809c07", "213078c536ac253aa61eaa54ca668abc",
			"63931059b8536fd5070afbf8259eaa12", "2c44406e317208a1041376247ed3de1a",
		}},
		{"seed", []string{
			"d98ce4e8793533e7425531a13e07db4c", "a99a9dacd090838544e7829d91637b84",
			"c029d8e861b43d29b695b473b9256e38", "2fa22729be4b9033b6bb5fe4f6ffce7d",
			"a6953226c50169f20ffc2276dc77ad96", "ebba8203de767fa95af6c84bbdd53d3c",
			"6eb6d6d7c9402cb828386715bca64678", "a90fc0de9eb4abf55657336dc4067c12",
		}},
	} {
		for use, want := range x.leaves {
			if leaf := Leaf(x.seed, use); leaf != unhex(t, want) {
				t.Errorf("Leaf(%q, %d): %x; want %s", x.seed, use, leaf, want)
			}
		}
	}
}

func TestKnownLeavesOfOtherUses(t *testing.T) {
	for _, x := range []struct {
		use  int
		want string
	}{
		{-1, "7f3ceb4791929e38bac6c748320fd888"},
		{255, "7f3ceb4791929e38bac6c748320fd888"},
		{8, "720de27fd3309bb13d6a8eff89394c82"},
		{128, "ebee9f2df71bec6679a3396623e950cb"},
		{-128, "ebee9f2df71bec6679a3396623e950cb"},
		{256, "d98ce4e8793533e7425531a13e07db4c"},
		{-256, "d98ce4e8793533e7425531a13e07db4c"},
		{263, "a90fc0de9eb4abf55657336dc4067c12"},
	} {
		if leaf := Leaf("seed", x.use); leaf != unhex(t, x.want) {
			t.Errorf("Leaf(\"seed\", %d): %x; want %s", x.use, leaf, x.want)
		}
	}
}

func TestLeafOfManySeeds(t *testing.T) {
	for _, seed := range samples() {
		for use := range 8 {
			checkLeaf(t, seed, use)
		}
	}
}

func TestLeafOfManyUses(t *testing.T) {
	for use := -300; use <= 600; use++ {
		checkLeaf(t, "seed", use)
	}
	for _, use := range wrongUses() {
		checkLeaf(t, "", use)
		checkLeaf(t, "seed", use)
	}
}

func TestLeavesDiffer(t *testing.T) {
	seen := map[string]bool{}
	for _, seed := range []string{"", "seed", "seed\x00"} {
		for use := range 256 {
			leaf := Leaf(seed, use)
			if len(leaf) != api.ChainBytes {
				t.Errorf("Leaf(%q, %d) has %d bytes", seed, use, len(leaf))
			}
			seen[leaf] = true
		}
	}
	if len(seen) != 3*256 {
		t.Errorf("%d leaves", len(seen))
	}
}

func TestKnownKeys(t *testing.T) {
	for _, x := range []struct{ seed, public, digits string }{
		{"", "064e1060de05b0d8b16dd05b3ea1f02bc64437fe39403b7f82f4c37ce7b47049",
			"AZOEGDeBbDYsW3QWz6h8CvGRDf-OUA7f4L0w3zntHBJ"},
		{"seed", "bae6ad2c16d49b4ce64cd00ad733916a142ed2306f2c6385e36ede85ce3e05a9",
			"LrmrSwW1JtM5kzQCtczkWoULtIwbyxjheNu3oXOPgWp"},
		{unhex(t, "000102030405060708090a0b0c0d0e0f101112131415161718191a1b1c1d1e1f"),
			"95878a6aeb71a94c8a11e6c60cef4149bc13666d7f3a3b8cb84367dd48d1c9a7",
			"JWHimrrcalMihHmxgzvQUm8E2Ztfzo7jLhDZ91I0cmn"},
	} {
		if public := Public(x.seed); public != unhex(t, x.public) {
			t.Errorf("Public(%q): %x; want %s", x.seed, public, x.public)
		}
		if key := Key(x.seed); key != "D"+x.digits {
			t.Errorf("Key(%q): %q; want D%s", x.seed, key, x.digits)
		}
		if key := Witness(x.seed); key != "B"+x.digits {
			t.Errorf("Witness(%q): %q; want B%s", x.seed, key, x.digits)
		}
	}
}

func TestManyKeys(t *testing.T) {
	for _, seed := range samples() {
		checkKeys(t, seed)
	}
	for n := range 40 {
		checkKeys(t, mixedBytes(n))
	}
}

func TestKeysDiffer(t *testing.T) {
	seen := map[string]bool{}
	for _, seed := range samples() {
		seen[Key(seed)], seen[Witness(seed)], seen[Public(seed)] = true, true, true
	}
	if len(seen) != 3*len(samples()) {
		t.Errorf("%d keys", len(seen))
	}
}

// P12.2

// Computed elsewhere: the sum of each signature, its first bytes, and its nodes.
func TestKnownSignatures(t *testing.T) {
	allBytes := make([]byte, 256)
	for i := range allBytes {
		allBytes[i] = byte(i)
	}
	for _, x := range []struct {
		seed                string
		use                 int
		message             string
		sum, first          string
		lowest, next, third string
	}{
		{"", 0, "", "2108f4e7fd2df61cb096b070d4e7e4ef2add621ee324dcc80dbe81bd3791266f", "001d7c6c5113884b",
			"9b22ef14d04522b2d9e5aab03e46fbe2", "e91c6be99f7bd507e0674dd534f57b1c", "80d800da693bd36167889ef1bc38c009"},
		{"", 3, string(allBytes), "eefa18e8f152b5c2065029c673a2132cae536db7972ee3907edca03d6372c96a", "03bff043d83a1ed4",
			"6e6c0f37cbb3f5b1f4f5a99e219b8b71", "8a46362573f0ff31d5b42009f1f2039d", "80d800da693bd36167889ef1bc38c009"},
		{"seed", 5, "message", "2aa8d82b41afaeb877e547bdb2ea6e0a5a816a1ef64389c5967b83e037a6e4df", "0570a049d0decd05",
			"a6953226c50169f20ffc2276dc77ad96", "72eff37e001104a30f2272dc0b134670", "5f941f95c13c181d28ef9ce3c52543cd"},
		{"seed", 7, "message", "811d988094ca41c6ea72d1a13c7bea75c6cc9ea19f31f39f4c669c1f2dd69627", "079e57bce4fdd887",
			"6eb6d6d7c9402cb828386715bca64678", "d1e4ce56af674c15f516647052f3e555", "5f941f95c13c181d28ef9ce3c52543cd"},
	} {
		raw := signed(t, x.seed, x.use, x.message)
		if sumOf(raw) != unhex(t, x.sum) || raw[:8] != unhex(t, x.first) || raw[577:] != unhex(t, x.lowest+x.next+x.third) {
			t.Errorf("Sign(%q, %d, %.16q): %x.., nodes %x", x.seed, x.use, x.message, raw[:8], raw[577:])
		}
	}
}

func TestSignOfManyMessages(t *testing.T) {
	for _, message := range samples() {
		for use := range 8 {
			checkSign(t, "seed", use, message)
		}
	}
}

func TestSignByManySeeds(t *testing.T) {
	for _, seed := range samples() {
		for use := range 8 {
			checkSign(t, seed, use, "message")
			checkSign(t, seed, use, "")
		}
	}
}

func TestSignByAUseThatIsNone(t *testing.T) {
	for _, use := range wrongUses() {
		for _, message := range []string{"", "message"} {
			checkSign(t, "seed", use, message)
			checkSign(t, "", use, message)
		}
	}
	for use := -300; use <= 600; use++ {
		if use < 0 || use > 7 {
			checkSign(t, "seed", use, "message")
		}
	}
}

// The nodes of the uses 0 and 1 are each other's leaves, and the same above.
func TestTheNodesBesideTheWay(t *testing.T) {
	levels := levelsOf(leavesOf("seed"))
	for use, numbers := range [][3]int{
		{1, 1, 1}, {0, 1, 1}, {3, 0, 1}, {2, 0, 1}, {5, 3, 0}, {4, 3, 0}, {7, 2, 0}, {6, 2, 0},
	} {
		raw := signed(t, "seed", use, "message")
		if raw[577:593] != Leaf("seed", numbers[0]) {
			t.Errorf("use %d: the lowest node is not the leaf %d", use, numbers[0])
		}
		for level, number := range numbers {
			if raw[577+16*level:593+16*level] != levels[level][number] {
				t.Errorf("use %d: the node %d is not that with the number %d", use, level, number)
			}
		}
	}
}

// The values and the way lead to the public key by the definition alone.
func TestSignaturesLeadToTheKey(t *testing.T) {
	for _, seed := range []string{"", "seed", mixedBytes(32)} {
		for use := range 8 {
			raw := signed(t, seed, use, "message")
			if int(raw[0]) != use || keyOfSignature("message", raw) != Public(seed) {
				t.Errorf("the signature by %.8q, use %d, leads to another key", seed, use)
			}
		}
	}
}

// P12.3

func TestVerifyOfEachUse(t *testing.T) {
	key, witness := textOf("D", publicOf("seed")), textOf("B", publicOf("seed"))
	for use := range 8 {
		for _, message := range samples() {
			raw := signatureOf("seed", use, message)
			if !Verify(key, message, raw) || !Verify(witness, message, raw) {
				t.Errorf("Verify of the signature by use %d of %.24q is false", use, message)
			}
		}
	}
}

// Any values and any nodes lead to some key, whether a seed has it or not.
func TestVerifyOfAnyValues(t *testing.T) {
	for first := range 256 {
		for _, rest := range []string{mixedBytes(624), strings.Repeat("\x00", 624), strings.Repeat("\xff", 624)} {
			raw := modulo(first) + rest
			public := keyOfSignature("message", raw)
			for _, key := range []string{textOf("D", public), textOf("B", public)} {
				if ok := Verify(key, "message", raw); ok != (first < 8) {
					t.Errorf("Verify of %.4x..: %v", raw, ok)
				}
			}
			checkFalse(t, "a digest", textOf("E", public), "message", raw)
		}
	}
}

func TestVerifyOfAnotherSize(t *testing.T) {
	key := Key("seed")
	for _, use := range []int{0, 7} {
		raw := signed(t, "seed", use, "message")
		for _, bad := range []string{
			"", raw[:1], raw[:624], raw[1:], raw + "\x00", "\x00" + raw, raw[:577], raw[:593], raw[:609],
			raw + raw[609:], raw + raw, raw[:576] + raw[577:], raw + strings.Repeat("\x00", 256),
		} {
			checkFalse(t, "another size", key, "message", bad)
		}
		for n := range 1300 {
			if n < 625 {
				checkFalse(t, "less bytes", key, "message", raw[:n])
			} else if n > 625 {
				checkFalse(t, "more bytes", key, "message", raw+mixedBytes(n-625))
			}
		}
	}
	checkFalse(t, "many bytes", key, "message", mixedBytes(api.MaxBytes+1))
}

func TestVerifyWithAnotherUse(t *testing.T) {
	key := Key("seed")
	for use := range 8 {
		raw := signed(t, "seed", use, "message")
		for other := range 256 {
			if other != use {
				checkFalse(t, "another use", key, "message", modulo(other)+raw[1:])
			}
		}
	}
}

func TestVerifyWithAByteChanged(t *testing.T) {
	key := Witness("seed")
	raw := signed(t, "seed", 6, "message")
	for place := range len(raw) {
		for _, bits := range []byte{1, 128, 255} {
			checkFalse(t, "a byte changed", key, "message", changed(raw, place, bits))
		}
	}
}

func TestVerifyWithPartsOfOthers(t *testing.T) {
	key := Key("seed")
	for use := range 8 {
		raw := signed(t, "seed", use, "message")
		nodes := raw[577:]
		for _, other := range []string{
			nodes[16:32] + nodes[:16] + nodes[32:],
			nodes[:16] + nodes[32:] + nodes[16:32],
			nodes[32:] + nodes[16:32] + nodes[:16],
			Leaf("seed", use) + nodes[16:],
			strings.Repeat("\x00", 48),
		} {
			checkFalse(t, "other nodes", key, "message", raw[:577]+other)
		}
		for chain := range 35 {
			at := 1 + 16*chain
			swapped := raw[:at] + raw[at+16:at+32] + raw[at:at+16] + raw[at+32:]
			checkFalse(t, "values swapped", key, "message", swapped)
		}
		neighbour := signed(t, "seed", (use+1)%8, "message")
		checkFalse(t, "the values of another use", key, "message", raw[:1]+neighbour[1:577]+raw[577:])
		checkFalse(t, "the nodes of another use", key, "message", raw[:577]+neighbour[577:])
		stranger := signed(t, "other", use, "message")
		checkFalse(t, "the values of another key", key, "message", raw[:1]+stranger[1:577]+raw[577:])
		checkFalse(t, "the nodes of another key", key, "message", raw[:577]+stranger[577:])
	}
}

func TestVerifyOfAnotherMessage(t *testing.T) {
	for _, use := range []int{0, 5, 7} {
		for i, message := range samples() {
			raw := signed(t, "seed", use, message)
			for j, other := range samples() {
				if ok := Verify(Key("seed"), other, raw); ok != (i == j) {
					t.Errorf("Verify of %.24q with the signature of %.24q: %v", other, message, ok)
				}
			}
		}
	}
}

func TestVerifyWithTheKeyOfAnotherSeed(t *testing.T) {
	for i, seed := range samples() {
		raw := signed(t, seed, 2, "message")
		for j, other := range samples() {
			if ok := Verify(Key(other), "message", raw); ok != (i == j) {
				t.Errorf("Verify with the key of %.24q of the signature by %.24q: %v", other, seed, ok)
			}
		}
	}
}

func TestVerifyWithAPrimitiveOfAnotherCode(t *testing.T) {
	public := Public("seed")
	raw := signed(t, "seed", 4, "message")
	for _, key := range []string{
		textOf("E", public), textOf("A", public), textOf("C", public), textOf("d", public), textOf("S", public),
		"0A" + Key("seed")[2:24], "MAAB", "1AALAAAAAAAB", "0A" + Key("seed")[2:],
		"S" + base64.URLEncoding.EncodeToString([]byte("\x00" + raw + "\x00"))[1:],
	} {
		checkFalse(t, "another code", key, "message", raw)
	}
	for c := range 256 {
		if c != 'D' && c != 'B' {
			checkFalse(t, "another code", modulo(c)+Key("seed")[1:], "message", raw)
		}
	}
}

func TestVerifyWithWhatIsNoKey(t *testing.T) {
	public, key, witness := Public("seed"), Key("seed"), Witness("seed")
	raw := signed(t, "seed", 4, "message")
	for _, bad := range []string{
		"", "D", "B", key[:43], key[1:], key + "A", key + "=", key + " ", " " + key, key + "\n", key + "\x00",
		key + key, key + witness, witness + key, key + "AAAA", witness + "A", witness[:43],
		public, "\x0c" + public, "D" + public, hex.EncodeToString([]byte(public)),
		"D" + base64.URLEncoding.EncodeToString([]byte(public)), "D" + base64.RawURLEncoding.EncodeToString([]byte(public)),
		strings.ToLower(key), key[:43] + "=", key[:43] + "\xff", key[:20] + "+" + key[21:], key[:20] + "ü" + key[22:],
		strings.Repeat("A", 44), strings.Repeat("\x00", 44), strings.Repeat(key, 1000),
	} {
		checkFalse(t, "no key", bad, "message", raw)
	}
}

// A key has one text: with a bit of the lead it is none.
func TestVerifyWithAnotherTextOfTheKey(t *testing.T) {
	const digits = "ABCDEFGHIJKLMNOPQRSTUVWXYZabcdefghijklmnopqrstuvwxyz0123456789-_"
	raw := signed(t, "seed", 4, "message")
	for _, key := range []string{Key("seed"), Witness("seed")} {
		first := strings.IndexByte(digits, key[1])
		for lead := 16; lead < 64; lead += 16 {
			checkFalse(t, "a lead", key[:1]+digits[first|lead:first|lead+1]+key[2:], "message", raw)
		}
		for place := 1; place < len(key); place++ {
			for _, digit := range digits {
				if byte(digit) != key[place] {
					checkFalse(t, "another digit", key[:place]+string(digit)+key[place+1:], "message", raw)
				}
			}
		}
	}
}

func TestVerifyWithTheOtherAlphabet(t *testing.T) {
	raw, message, key := strings.Repeat("\x00", 625), "message", ""
	for !strings.Contains(key, "-") || !strings.Contains(key, "_") {
		message += "!"
		key = textOf("D", keyOfSignature(message, raw))
	}
	if !Verify(key, message, raw) {
		t.Errorf("Verify with %q is false", key)
	}
	checkFalse(t, "a plus", strings.Replace(key, "-", "+", 1), message, raw)
	checkFalse(t, "a slash", strings.Replace(key, "_", "/", 1), message, raw)
}

// What leads to the key with another mark, or without one, is no signature.
func TestVerifyOfATreeWithOtherMarks(t *testing.T) {
	raw := "\x00" + mixedBytes(624)
	value := recoveredOf("message", raw[1:577])
	for _, marks := range [][3]string{
		{"", "\x01", "\x02"}, {"\x00", "", "\x02"}, {"\x00", "\x01", ""}, {"", "", ""},
		{"\x01", "\x01", "\x02"}, {"\x00", "\x00", "\x02"}, {"\x00", "\x01", "\x01"}, {"\x00", "\x02", "\x01"},
		{"\x00", "\x01", "\x02"},
	} {
		node := shortOf(marks[0] + value)
		for level := range 3 {
			node = shortOf(marks[1] + node + raw[577+16*level:593+16*level])
		}
		key := textOf("D", sumOf(marks[2]+node))
		if ok := Verify(key, "message", raw); ok != (marks == [3]string{"\x00", "\x01", "\x02"}) {
			t.Errorf("Verify of a tree with the marks %q: %v", marks, ok)
		}
	}
}

// A way that ends below the top is none, whatever stands for the nodes above.
func TestVerifyOfAShorterWay(t *testing.T) {
	raw := signed(t, "seed", 0, "message")
	for level, nodes := range levelsOf(leavesOf("seed"))[:3] {
		key := textOf("D", sumOf("\x02"+nodes[0]))
		way := raw[:577+16*level]
		checkFalse(t, "a lower node as the top", key, "message", raw)
		checkFalse(t, "a lower node as the top", key, "message", way)
		checkFalse(t, "a lower node as the top", key, "message", way+strings.Repeat("\x00", 625-len(way)))
	}
}

// Consequences

func TestVerifyOfSign(t *testing.T) {
	for _, seed := range samples() {
		key, witness := Key(seed), Witness(seed)
		for use := range 8 {
			for _, message := range []string{"", "message", mixedBytes(1000)} {
				raw := signed(t, seed, use, message)
				if !Verify(key, message, raw) || !Verify(witness, message, raw) {
					t.Errorf("Verify of Sign by %.24q, use %d, of %.24q is false", seed, use, message)
				}
			}
		}
	}
}

func TestSignaturesDiffer(t *testing.T) {
	seen := map[string]bool{}
	for _, seed := range samples() {
		for use := range 8 {
			seen[signed(t, seed, use, "message")] = true
		}
	}
	if len(seen) != 8*len(samples()) {
		t.Errorf("%d signatures", len(seen))
	}
}

// Rule 1 and rule 6: nothing depends on what was signed before.

func TestResultsDependOnArgumentsAlone(t *testing.T) {
	first, key := signed(t, "seed", 3, "message"), Key("seed")
	signed(t, "seed", 3, "another message")
	signed(t, "another seed", 3, "message")
	Verify(key, "another message", first)
	if signed(t, "seed", 3, "message") != first || Key("seed") != key || !Verify(key, "message", first) {
		t.Error("another result of the same arguments")
	}
}

// FuzzAll looks for strings and uses that break a promise of the chapter.
func FuzzAll(f *testing.F) {
	raw, _ := Sign("seed", 7, "message")
	f.Add("", "", "", "", 0)
	f.Add("seed", "message", Key("seed"), raw, 7)
	f.Add("seed", "message", Witness("seed"), raw[:624], -1)
	f.Add(mixedBytes(32), mixedBytes(100), "E"+Key("seed")[1:], mixedBytes(625), math.MaxInt)
	f.Fuzz(func(t *testing.T, seed, message, key, raw string, use int) {
		checkLeaf(t, seed, use)
		checkKeys(t, seed)
		checkSign(t, seed, use, message)
		checkVerify(t, key, message, raw)
		checkVerify(t, Key(seed), message, raw)
		own := signed(t, seed, use&7, message)
		if !Verify(Key(seed), message, own) || !Verify(Witness(seed), message, own) {
			t.Error("Verify of Sign is false")
		}
		checkVerify(t, key, message, own)
		if len(raw) == 625 {
			checkVerify(t, textOf("D", keyOfSignature(message, raw)), message, raw)
		}
	})
}
