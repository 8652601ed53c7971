package mac_test

import (
	"bytes"
	"crypto/hmac"
	"crypto/sha256"
	"encoding/hex"
	"slices"
	"strconv"
	"strings"
	"sync"
	"testing"
	"time"

	"spyglass/mac"
	"spyglass/sha"
)

// rolls answers numbers that look like none in particular, the same ones each time.
func rolls(seed uint64) func(below int) int {
	return func(below int) int {
		seed = seed*6364136223846793005 + 1442695040888963407
		return int((seed >> 33) % uint64(below))
	}
}

// some answers n bytes that look like none in particular.
func some(roll func(int) int, n int) []byte {
	b := make([]byte, n)
	for at := range b {
		b[at] = byte(roll(256))
	}
	return b
}

// numbered answers the bytes 0, 1, 2 and so on.
func numbered(n int) []byte {
	b := make([]byte, n)
	for at := range b {
		b[at] = byte(at)
	}
	return b
}

// keyLengths are lengths of keys at which something begins or ends.
func keyLengths() []int {
	return []int{0, 1, 2, 16, 31, 32, 33, 62, 63, 64, 65, 66, 100, 127, 128, 129, 131, 200, 1000, 5000}
}

// textLengths are lengths of texts at which something begins or ends.
func textLengths() []int {
	return []int{0, 1, 2, 54, 55, 56, 57, 63, 64, 65, 119, 120, 121, 127, 128, 129, 300, 4095, 4096, 4097, 16383, 16384, 70000}
}

// wantCode answers the tag of the parts as the library makes it.
func wantCode(key []byte, parts ...[]byte) (tag [32]byte) {
	h := hmac.New(sha256.New, key)
	h.Write(slices.Concat(parts...))
	copy(tag[:], h.Sum(nil))
	return tag
}

// told answers a text's length by digits of 128, and the text.
func told(b []byte) []byte {
	var all []byte
	n := len(b)
	for ; n > 127; n >>= 7 {
		all = append(all, byte(n&127|128))
	}
	return append(append(all, byte(n)), b...)
}

// wantDerive answers what Derive has to, made of one text by the library.
func wantDerive(key []byte, label string, parts ...[]byte) [32]byte {
	text := told([]byte(label))
	for _, part := range parts {
		text = append(text, told(part)...)
	}
	return wantCode(key, text)
}

// codeHolds fails, if Code of the parts isn't the tag of all their bytes.
func codeHolds(t *testing.T, name string, key, all []byte, parts ...[]byte) {
	t.Helper()
	if got, want := mac.Code(key, parts...), wantCode(key, all); got != want {
		t.Fatalf("%s: key of %d bytes, %d bytes in %d parts: %x, not %x", name, len(key), len(all), len(parts), got, want)
	}
}

// deriveHolds fails, if Derive doesn't answer what it has to.
func deriveHolds(t *testing.T, name string, key []byte, label string, parts ...[]byte) {
	t.Helper()
	if got, want := mac.Derive(key, label, parts...), wantDerive(key, label, parts...); got != want {
		t.Fatalf("%s: key of %d bytes, label of %d, %d parts: %x, not %x", name, len(key), len(label), len(parts), got, want)
	}
}

// once keeps what came, and fails if one answer comes for two names.
func once(t *testing.T) func(name string, answer [32]byte) {
	seen := map[[32]byte]string{}
	return func(name string, answer [32]byte) {
		t.Helper()
		if was, ok := seen[answer]; ok {
			t.Errorf("one answer for %s and for %s", was, name)
		}
		seen[answer] = name
	}
}

// P4.1: Code

func TestCodeOfWhatIsKnown(t *testing.T) {
	for _, x := range []struct {
		key, text []byte
		want      string
	}{
		{nil, nil, "b613679a0814d9ec772f95d778c35fc5ff1697c493715653c6c712144292c5ad"},
		{bytes.Repeat([]byte{0x0b}, 20), []byte("Hi There"), "b0344c61d8db38535ca8afceaf0bf12b881dc200c9833da726e9376c2e32cff7"},
		{[]byte("Jefe"), []byte("what do ya want for nothing?"), "5bdcc146bf60754e6a042426089575c75a003f089d2739839dec58b964ec3843"},
		{bytes.Repeat([]byte{0xaa}, 20), bytes.Repeat([]byte{0xdd}, 50), "773ea91e36800e46854db8ebd09181a72959098b3ef8c122d9635514ced565fe"},
		{numbered(26)[1:], bytes.Repeat([]byte{0xcd}, 50), "82558a389a443c0ea4cc819899f2083a85f0faa3e578f8077a2e3ff46729665b"},
		{bytes.Repeat([]byte{0xaa}, 131), []byte("Test Using Larger Than Block-Size Key - Hash Key First"), "60e431591ee0b67f0d8a26aacbf5b77f8e0bc6213728c5140546040f0ee37f54"},
		{bytes.Repeat([]byte{0xaa}, 131), []byte("This is a test using a larger than block-size key and a larger than block-size data. The key needs to be hashed before being used by the HMAC algorithm."), "9b09ffa71b942fcb27635fbcd5b0e944bfdc63644f0713938a7f51535c3a35e2"},
		{numbered(63), []byte("text"), "031e7f31fa690d4d7e39698aa240b66d3c8705b13c107f23e26c46845e06e921"},
		{numbered(64), []byte("text"), "641d21a27db22a6a1e8bc28f948eee3c9e7c855f3e74f1fdf67f026e0e4fe70e"},
		{numbered(65), []byte("text"), "03b31bdc10d1463cc050380fe3b8ddbc053dfb2f31c33564cefadfed4badba01"},
		{numbered(131), []byte("text"), "f0c52ea11bf8a223b6f498d4cb907b408cdc940d426ce15feff83150d815df05"},
		{numbered(63), nil, "91a6da6e552749b42d019214821d37ec711ae369b9e717aa8b5e48ec2e9ca359"},
		{numbered(64), nil, "3499f163f48604c0b15ac89e4e7c66f314fb3b203b8ac2f564828e62f6be9d9d"},
		{numbered(65), nil, "93ff3114f20ef700222fc1c0334737a51a88740dc0dd2ce0ab3151f0a4a0e85a"},
		{numbered(131), nil, "247893dc75272546ce4b0475d4dc643e3903e7379a8c95c46fca132e82b02241"},
	} {
		tag := mac.Code(x.key, x.text)
		if got := hex.EncodeToString(tag[:]); got != x.want {
			t.Errorf("key of %d bytes, %d bytes: %s, not %s", len(x.key), len(x.text), got, x.want)
		}
	}
}

func TestCodeIsASumOfASum(t *testing.T) {
	key, text := some(rolls(1), 64), []byte("any text")
	turned := func(by byte) []byte {
		b := bytes.Clone(key)
		for at := range b {
			b[at] ^= by
		}
		return b
	}
	within := sha.Sum(turned(54), text)
	if got, want := mac.Code(key, text), sha.Sum(turned(92), within[:]); got != want {
		t.Errorf("%x, not %x", got, want)
	}
}

func TestCodeAtAllEdges(t *testing.T) {
	roll := rolls(2)
	for _, k := range keyLengths() {
		key := some(roll, k)
		for _, n := range textLengths() {
			b := some(roll, n)
			codeHolds(t, "an edge", key, b, b)
		}
	}
}

func TestCodeOfEachLengthOfKeyAndText(t *testing.T) {
	key, text := some(rolls(3), 200), some(rolls(4), 200)
	for n := range key {
		codeHolds(t, "a beginning of a key", key[:n], text, text)
		codeHolds(t, "a beginning of a text", key[:20], text[:n], text[:n])
		codeHolds(t, "a beginning of a text, a long key", key, text[:n], text[:n])
	}
}

func TestCodeOfKeysOfOneByteAgainAndAgain(t *testing.T) {
	for _, k := range keyLengths() {
		for _, fill := range []byte{0, 54, 92, 54 ^ 92, 127, 128, 255} {
			key := bytes.Repeat([]byte{fill}, k)
			codeHolds(t, "one byte again and again", key, []byte("text"), []byte("text"))
		}
	}
}

func TestNoughtsBehindAKeyPlayNoPartUpToABlock(t *testing.T) {
	for _, k := range []int{0, 1, 20, 62, 63, 64} {
		key := bytes.Repeat([]byte{7}, k)
		want := mac.Code(key, []byte("text"))
		for with := k; with <= 64; with++ {
			longer := append(bytes.Clone(key), make([]byte, with-k)...)
			if got := mac.Code(longer, []byte("text")); got != want {
				t.Errorf("key of %d bytes with noughts to %d: %x, not %x", k, with, got, want)
			}
		}
		longer := append(bytes.Clone(key), make([]byte, 65-k)...)
		if mac.Code(longer, []byte("text")) == want {
			t.Errorf("key of %d bytes: noughts to 65 play no part", k)
		}
	}
}

func TestAKeyBeyondABlockIsItsSum(t *testing.T) {
	for _, k := range []int{63, 64, 65, 66, 128, 1000} {
		key := some(rolls(uint64(k)), k)
		sum := sha.Sum(key)
		same := mac.Code(key, []byte("text")) == mac.Code(sum[:], []byte("text"))
		if same != (k > 64) {
			t.Errorf("key of %d bytes: is its sum: %t", k, same)
		}
	}
}

func TestEachBitOfATextCounts(t *testing.T) {
	key := []byte("key")
	for _, n := range []int{1, 55, 56, 64, 65, 130} {
		b := some(rolls(uint64(n)), n)
		differ := once(t)
		differ("the text", mac.Code(key, b))
		for at := range b {
			for bit := range 8 {
				b[at] ^= 1 << bit
				differ("bit "+strconv.Itoa(8*at+bit), mac.Code(key, b))
				codeHolds(t, "a turned bit", key, b, b)
				b[at] ^= 1 << bit
			}
		}
	}
}

func TestEachBitOfAKeyCounts(t *testing.T) {
	for _, k := range []int{1, 32, 63, 64, 65, 129} {
		key := some(rolls(uint64(k)), k)
		differ := once(t)
		differ("the key", mac.Code(key, []byte("text")))
		for at := range key {
			for bit := range 8 {
				key[at] ^= 1 << bit
				differ("bit "+strconv.Itoa(8*at+bit), mac.Code(key, []byte("text")))
				key[at] ^= 1 << bit
			}
		}
	}
}

func TestTheLengthOfATextCounts(t *testing.T) {
	for _, fill := range []byte{0, 128, 255} {
		differ := once(t)
		for n := range 300 {
			differ(strconv.Itoa(n)+" bytes", mac.Code([]byte("key"), bytes.Repeat([]byte{fill}, n)))
		}
	}
}

func TestAKeyIsNoText(t *testing.T) {
	if mac.Code([]byte("a"), []byte("b")) == mac.Code([]byte("b"), []byte("a")) || mac.Code(nil, []byte("ab")) == mac.Code([]byte("a"), []byte("b")) {
		t.Error("key and text may change places, or bytes go from one to the other")
	}
}

// P4.1: Same

// sameHolds fails, if Same of both, either way round, isn't want.
func sameHolds(t *testing.T, name string, a, b []byte, want bool) {
	t.Helper()
	if mac.Same(a, b) != want || mac.Same(b, a) != want {
		t.Errorf("%s: Same isn't %t of %d and %d bytes", name, want, len(a), len(b))
	}
}

func TestSameOfOneLength(t *testing.T) {
	for _, n := range []int{1, 2, 7, 8, 9, 15, 16, 17, 31, 32, 33, 64, 255, 256, 257} {
		a := some(rolls(uint64(n)), n)
		b := bytes.Clone(a)
		sameHolds(t, "the same ones", a, b, true)
		sameHolds(t, "one with itself", a, a, true)
		for at := range b {
			for bit := range 8 {
				b[at] ^= 1 << bit
				sameHolds(t, "one bit at "+strconv.Itoa(at), a, b, false)
				b[at] ^= 1 << bit
			}
		}
		sameHolds(t, "turned back", a, b, true)
	}
}

func TestSameOfEachTwoBytes(t *testing.T) {
	for x := range 256 {
		for y := range 256 {
			sameHolds(t, "a byte", []byte{byte(x)}, []byte{byte(y)}, x == y)
			sameHolds(t, "bytes that differ alike", []byte{byte(x), byte(x)}, []byte{byte(y), byte(y)}, x == y)
		}
	}
}

func TestSameOfBytesThatDifferInSeveralPlaces(t *testing.T) {
	// What differs must not make up for itself, whether it is turned, added or taken away.
	for _, x := range [][2]string{
		{"\x01\x00", "\x00\x01"},
		{"\x01\x01", "\x00\x00"},
		{"\x80\x80", "\x00\x00"},
		{"\x01\x03", "\x02\x02"},
		{"\xff\x01", "\x00\x00"},
		{"ab", "ba"},
		{"abc", "cab"},
		{"\xff\xff\xff\xff", "\x00\x00\x00\x00"},
	} {
		sameHolds(t, strconv.Quote(x[0]), []byte(x[0]), []byte(x[1]), false)
	}
	sameHolds(t, "256 places", make([]byte, 256), bytes.Repeat([]byte{1}, 256), false)
	sameHolds(t, "65536 places", make([]byte, 65536), bytes.Repeat([]byte{255}, 65536), false)
}

func TestSameOfOtherLengths(t *testing.T) {
	a := some(rolls(5), 300)
	for n := range a {
		sameHolds(t, "a beginning", a, a[:n], false)
		sameHolds(t, "an end", a, a[300-n:], false)
		sameHolds(t, "noughts", make([]byte, n), make([]byte, n+1), false)
		sameHolds(t, "lengths that agree in their lowest byte", make([]byte, n), make([]byte, n+256), false)
	}
	sameHolds(t, "one more of other bytes", []byte("a"), []byte("bb"), false)
	sameHolds(t, "nil and one nought", nil, []byte{0}, false)
	sameHolds(t, "empty and one nought", []byte{}, []byte{0}, false)
}

func TestSameOfNothing(t *testing.T) {
	sameHolds(t, "nil", nil, nil, true)
	sameHolds(t, "nil and empty", nil, []byte{}, true)
	sameHolds(t, "empty", []byte{}, []byte{}, true)
}

func TestSpareRoomPlaysNoPartForSame(t *testing.T) {
	a, b := []byte("abcx"), []byte("abcyz")
	sameHolds(t, "other spare room", a[:3], b[:3], true)
	sameHolds(t, "none", a[:0], b[:0], true)
	sameHolds(t, "the same memory, other lengths", a[:2], a[:3], false)
	again := []byte("aaaa")
	sameHolds(t, "over one another", again[:3], again[1:], true)
	sameHolds(t, "over one another", a[:3], a[1:], false)
}

// quickest answers the least time of several that Same took to tell that bytes differ.
func quickest(t *testing.T, a, b []byte) time.Duration {
	t.Helper()
	least := time.Duration(1<<63 - 1)
	for range 7 {
		begun := time.Now()
		same := mac.Same(a, b)
		least = min(least, time.Since(begun))
		if same {
			t.Error("others are the same")
		}
	}
	return least
}

// The answer can't tell whether each byte is looked at; but one who stops at the first byte takes
// a hundred thousandth of the time here, so the wide bound holds on any machine.
func TestSameLooksAtEachByte(t *testing.T) {
	a := make([]byte, 1<<22)
	first, last := bytes.Clone(a), bytes.Clone(a)
	first[0], last[len(last)-1] = 1, 1
	whole := quickest(t, a, last)
	if early := quickest(t, a, first); early < whole/16 {
		t.Errorf("bytes that differ at once take %v, others %v", early, whole)
	}
}

// P4.1: Derive

func TestDeriveOfWhatIsKnown(t *testing.T) {
	one, noughts := []byte{0, 0, 0, 1}, make([]byte, 32)
	for _, x := range []struct {
		key, label string
		parts      [][]byte
		want       string
	}{
		{"", "", nil, "6620b31f2924b8c01547745f41825d322336f83ebb13d723678789d554d8a3ef"},
		{"secret", "hello", nil, "841e07044427be456d54838d1b187961c0be170206a0454e009c010911652351"},
		{"k", "a", [][]byte{[]byte("b")}, "89c96f36b6a095834d62dfee91afc4ab4ace9b69818ba6d5f55cc194d4e192bb"},
		{"secret", "up", [][]byte{one, noughts}, "1f36c9d3ec98e969e84df89fa240be26d1a57e5679efd6bc97c79cd2d95b2584"},
		{"secret", "down", [][]byte{one, noughts}, "ae034880e5d12a1462fd9fe40e58ca0bbc807ceba6764c29d453822bb30536bd"},
		{"secret", strings.Repeat("x", 128), [][]byte{bytes.Repeat([]byte("y"), 300)}, "ed7f941245af081399c6003e5c7218cffbd41c59fd3a677a5e40aa22b1eae233"},
		{"secret", "", [][]byte{nil}, "ab6f01c2596d35d72e50771aaf9384dbb638cd20114f8275faa3597f0b28217e"},
		{"secret", "", [][]byte{nil, {}}, "69eaf157319bdc2c072889c2ae3f3b7f478c5694d83ca7c0bac0a8bb3f58d945"},
		{"secret", strings.Repeat("x", 4097), [][]byte{bytes.Repeat([]byte("y"), 5000)}, "1643a253911093925db180bdffd1aae8d237f05ff4bad17ebd413151f1603082"},
	} {
		key := mac.Derive([]byte(x.key), x.label, x.parts...)
		if got := hex.EncodeToString(key[:]); got != x.want {
			t.Errorf("key %q, label of %d bytes, %d parts: %s, not %s", x.key, len(x.label), len(x.parts), got, x.want)
		}
	}
}

func TestDeriveIsCodeOfOneText(t *testing.T) {
	for _, key := range []string{"", "k", "a longer key", strings.Repeat("k", 64), strings.Repeat("k", 65)} {
		k := []byte(key)
		if mac.Derive(k, "a", []byte("b")) != mac.Code(k, []byte{1}, []byte("a"), []byte{1}, []byte("b")) {
			t.Errorf("key %q: label a, part b", key)
		}
		if mac.Derive(k, "up", []byte{0, 0, 0, 1}, []byte{9}) != mac.Code(k, []byte("\x02up\x04\x00\x00\x00\x01\x01\x09")) {
			t.Errorf("key %q: label up, two parts", key)
		}
		if mac.Derive(k, "") != mac.Code(k, []byte{0}) {
			t.Errorf("key %q: no label, no parts", key)
		}
		if mac.Derive(k, "", nil, nil) != mac.Code(k, []byte{0, 0, 0}) {
			t.Errorf("key %q: no label, parts without bytes", key)
		}
	}
}

func TestDeriveAtAllEdges(t *testing.T) {
	roll := rolls(6)
	for _, n := range textLengths() {
		b := some(roll, n)
		for _, k := range keyLengths() {
			key := some(roll, k)
			deriveHolds(t, "a label of that length", key, string(b))
			deriveHolds(t, "a label and a part of that length", key, string(b), b)
			deriveHolds(t, "a part of that length", key, "label", b)
			deriveHolds(t, "parts around it", key, "label", nil, b, []byte("ab"), b)
			deriveHolds(t, "no label", key, "", b, b)
		}
	}
}

// Beyond MaxText layer 1 lays no text, and from 2^14 and 2^21 bytes on a length has more digits.
func TestDeriveOfVeryLongLabelsAndParts(t *testing.T) {
	for _, n := range []int{1<<14 - 1, 1 << 14, 1<<21 - 1, 1 << 21, 1<<21 + 1} {
		b := bytes.Repeat([]byte("z"), n)
		deriveHolds(t, "a very long label", []byte("key"), string(b), []byte("b"))
		deriveHolds(t, "a very long part", []byte("key"), "label", b, nil)
	}
}

func TestDeriveTellsALabelsBytes(t *testing.T) {
	for _, label := range []string{"\x00", "é", "𝄞 and 語", "\xff\xfe", "\xed\xa0\x80", "a\x00", "\r\n", strings.Repeat("é", 64), strings.Repeat("\xff", 200)} {
		deriveHolds(t, strconv.Quote(label), []byte("key"), label, []byte("b"))
	}
}

func TestDeriveOfManyParts(t *testing.T) {
	roll := rolls(7)
	for range 2000 {
		parts := make([][]byte, roll(8))
		for at := range parts {
			parts[at] = some(roll, roll(1+roll(400)))
		}
		deriveHolds(t, "any parts", some(roll, roll(140)), string(some(roll, roll(200))), parts...)
	}
	deriveHolds(t, "many without bytes", []byte("key"), "label", make([][]byte, 100000)...)
}

func TestEachBitOfWhatIsDerivedFromCounts(t *testing.T) {
	key, label, part := some(rolls(8), 40), some(rolls(9), 40), some(rolls(10), 40)
	differ := once(t)
	differ("nothing turned", mac.Derive(key, string(label), part))
	for at := range 40 {
		for bit := range 8 {
			for name, b := range map[string][]byte{"the key": key, "the label": label, "the part": part} {
				b[at] ^= 1 << bit
				differ(name+" at bit "+strconv.Itoa(8*at+bit), mac.Derive(key, string(label), part))
				b[at] ^= 1 << bit
			}
		}
	}
}

// P4.2: Code

func TestHowTextsAreCutPlaysNoPartForCode(t *testing.T) {
	roll := rolls(11)
	for _, k := range []int{0, 20, 64, 65} {
		key := some(roll, k)
		for _, n := range []int{1, 2, 3, 63, 64, 65, 130} {
			b := some(roll, n)
			for cut := range n + 1 {
				codeHolds(t, "cut in two", key, b, b[:cut], b[cut:])
				codeHolds(t, "with parts without bytes", key, b, nil, b[:cut], []byte{}, b[cut:], nil)
			}
			for size := 1; size <= n; size++ {
				codeHolds(t, "pieces of one size", key, b, slices.Collect(slices.Chunk(b, size))...)
			}
		}
	}
}

func TestTextsCutInThreePlayNoPartForCode(t *testing.T) {
	b := some(rolls(12), 70)
	for first := range len(b) + 1 {
		for second := first; second <= len(b); second++ {
			codeHolds(t, "cut in three", []byte("key"), b, b[:first], b[first:second], b[second:])
		}
	}
}

func TestTextsCutAnyhowPlayNoPartForCode(t *testing.T) {
	roll := rolls(13)
	for range 3000 {
		b := some(roll, roll(500))
		var parts [][]byte
		for at := 0; at < len(b); {
			size := min(roll(1+roll(150)), len(b)-at)
			parts = append(parts, b[at:at+size])
			at += size
		}
		codeHolds(t, "cut anyhow", some(roll, roll(140)), b, parts...)
	}
}

func TestNoPartsForCode(t *testing.T) {
	for _, k := range keyLengths() {
		key := some(rolls(14), k)
		want := wantCode(key)
		for name, got := range map[string][32]byte{
			"no parts":              mac.Code(key),
			"no list of parts":      mac.Code(key, [][]byte(nil)...),
			"a list without parts":  mac.Code(key, [][]byte{}...),
			"a nil part":            mac.Code(key, nil),
			"an empty part":         mac.Code(key, []byte{}),
			"several without bytes": mac.Code(key, nil, []byte{}, nil, []byte{}),
		} {
			if got != want {
				t.Errorf("key of %d bytes, %s: %x, not %x", k, name, got, want)
			}
		}
	}
	codeHolds(t, "many without bytes", []byte("key"), nil, make([][]byte, 100000)...)
}

func TestTheOrderOfPartsCounts(t *testing.T) {
	key, a, b := []byte("key"), []byte("ab"), []byte("c")
	if mac.Code(key, a, b) == mac.Code(key, b, a) {
		t.Error("Code: ab, c and c, ab have one tag")
	}
	if mac.Derive(key, "l", a, b) == mac.Derive(key, "l", b, a) {
		t.Error("Derive: ab, c and c, ab have one key")
	}
}

// P4.2: Derive

// cuts answers all ways to cut b into parts with bytes.
func cuts(b []byte) [][][]byte {
	if len(b) == 0 {
		return [][][]byte{nil}
	}
	var all [][][]byte
	for n := 1; n <= len(b); n++ {
		for _, behind := range cuts(b[n:]) {
			all = append(all, append([][]byte{b[:n]}, behind...))
		}
	}
	return all
}

func TestHowTextsAreCutPlaysAPartForDerive(t *testing.T) {
	key := []byte("key")
	for _, text := range []string{"", "a", "ab", "abcdefgh", "\x00\x00\x00\x00\x00\x00", "\x01\x01\x01\x01\x01\x01", "aaaaaaaa"} {
		differ := once(t)
		for n := range len(text) + 1 {
			for _, parts := range cuts([]byte(text[n:])) {
				differ(strconv.Quote(text[:n])+" and "+strconv.Quote(string(bytes.Join(parts, []byte{'|'}))), mac.Derive(key, text[:n], parts...))
				deriveHolds(t, "cut", key, text[:n], parts...)
			}
		}
	}
}

func TestPartsWithoutBytesPlayAPartForDerive(t *testing.T) {
	key, a := []byte("key"), []byte("a")
	differ := once(t)
	for name, parts := range map[string][][]byte{
		"none":                     nil,
		"one without bytes":        {nil},
		"two without bytes":        {nil, nil},
		"three without bytes":      {nil, nil, nil},
		"a":                        {a},
		"a, one without bytes":     {a, nil},
		"one without bytes, a":     {nil, a},
		"around a":                 {nil, a, nil},
		"two without bytes, a":     {nil, nil, a},
		"a, two without bytes":     {a, nil, nil},
		"a, one without bytes, a":  {a, nil, a},
		"a, a":                     {a, a},
		"a nought":                 {{0}},
		"a nought, one without":    {{0}, nil},
		"two noughts":              {{0, 0}},
		"one by itself of one one": {{1}, {1}},
	} {
		differ(name, mac.Derive(key, "label", parts...))
	}
}

// A text that looks like a length and what stands behind it is still a text.
func TestPartsThatLookLikeOthersForDerive(t *testing.T) {
	key := []byte("key")
	differ := once(t)
	differ("a, b", mac.Derive(key, "a", []byte("b")))
	differ("a with b's length and b", mac.Derive(key, "a\x01b"))
	differ("no label, a and b with lengths", mac.Derive(key, "", []byte("a\x01b")))
	differ("lengths told twice", mac.Derive(key, "\x01a\x01b"))
	differ("b, a", mac.Derive(key, "b", []byte("a")))
	differ("ab", mac.Derive(key, "ab"))
	differ("nothing, ab", mac.Derive(key, "", []byte("ab")))
	differ("nothing, a, b", mac.Derive(key, "", []byte("a"), []byte("b")))
	differ("no label, one without bytes, ab", mac.Derive(key, "", nil, []byte("ab")))
	differ("Code of ab", mac.Code(key, []byte("ab")))
	differ("Code of a, b with one length", mac.Code(key, []byte("\x01ab")))
}

// R2

func TestWhatWasAskedAheadPlaysNoPart(t *testing.T) {
	roll := rolls(15)
	for range 200 {
		key, b := some(roll, roll(130)), some(roll, roll(300))
		tag, derived := mac.Code(key, b), mac.Derive(key, "label", b)
		mac.Code(some(roll, roll(130)), some(roll, roll(300)))
		mac.Derive(some(roll, roll(130)), "another", some(roll, roll(300)))
		mac.Same(key, b)
		if mac.Code(key, b) != tag || mac.Derive(key, "label", b) != derived {
			t.Fatalf("key of %d bytes, %d bytes: another answer the second time", len(key), len(b))
		}
	}
}

func TestManyAtOnce(t *testing.T) {
	key, b := some(rolls(16), 70), some(rolls(17), 2000)
	tag, derived := wantCode(key, b), wantDerive(key, "label", b)
	var all sync.WaitGroup
	for n := range 8 {
		all.Go(func() {
			for range 50 {
				if mac.Code(key, b[:n], b[n:]) != tag || mac.Derive(key, "label", b) != derived || !mac.Same(b, b) {
					t.Errorf("another answer, cut at %d", n)
				}
			}
		})
	}
	all.Wait()
}

// R3

func TestWhatIsHandedInStaysAsItIs(t *testing.T) {
	roll := rolls(18)
	for _, k := range keyLengths() {
		keyRoom, room := some(roll, k+200), some(roll, 600)
		keyWas, was := bytes.Clone(keyRoom), bytes.Clone(room)
		spare := []byte("spare")
		parts := [][]byte{room[:100:100], nil, room[100:300], spare, spare}
		mac.Code(keyRoom[:k], parts[:3]...)
		mac.Derive(keyRoom[:k], "label", parts[:3]...)
		mac.Same(keyRoom[:k], room[:k%600])
		mac.Same(room[:300], room[300:])
		if !bytes.Equal(keyRoom, keyWas) || !bytes.Equal(room, was) {
			t.Fatalf("key of %d bytes: it, a part or their spare room is another now", k)
		}
		if &parts[0][0] != &room[0] || len(parts[0]) != 100 || parts[1] != nil || &parts[2][0] != &room[100] || len(parts[2]) != 200 {
			t.Fatalf("key of %d bytes: the list has other parts now", k)
		}
		if &parts[3][0] != &spare[0] || &parts[4][0] != &spare[0] || len(parts[3]) != 5 || string(spare) != "spare" {
			t.Fatalf("key of %d bytes: the list's spare room is another now", k)
		}
	}
}

func TestWhatIsHandedInIsNotKept(t *testing.T) {
	key, b := []byte("key"), []byte("abc")
	tag, derived := mac.Code(key, b), mac.Derive(key, "label", b)
	key[0], b[1] = 'x', 'y'
	if tag != wantCode([]byte("key"), []byte("abc")) || derived != wantDerive([]byte("key"), "label", []byte("abc")) {
		t.Error("what was answered is another once what was handed in is")
	}
	codeHolds(t, "bytes that were others ahead", key, []byte("ayc"), b)
	deriveHolds(t, "bytes that were others ahead", key, "label", b)
}

func TestAnAnswerMayBeHandedInAgain(t *testing.T) {
	tag := mac.Code([]byte("key"), []byte("abc"))
	was := tag
	codeHolds(t, "a tag as key and text", tag[:], tag[:], tag[:])
	deriveHolds(t, "a tag as key and part", tag[:], "label", tag[:], tag[:])
	if tag != was {
		t.Error("the tag is another now")
	}
}

// R4

func TestNilAndEmptyMeanTheSame(t *testing.T) {
	if mac.Code(nil, []byte("a")) != mac.Code([]byte{}, []byte("a")) || mac.Code(nil) != mac.Code([]byte{}, []byte{}) {
		t.Error("Code: a nil key and an empty one")
	}
	for _, key := range [][]byte{nil, {}} {
		for _, parts := range [][][]byte{nil, {}} {
			if mac.Derive(key, "l", parts...) != mac.Derive(nil, "l") {
				t.Error("Derive: nil and empty keys or lists of parts")
			}
		}
		if mac.Derive([]byte("k"), "l", key) != mac.Derive([]byte("k"), "l", nil) {
			t.Error("Derive: nil and empty parts")
		}
	}
}
