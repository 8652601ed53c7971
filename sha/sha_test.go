package sha_test

import (
	"bytes"
	"crypto/sha256"
	"encoding/hex"
	"slices"
	"strings"
	"sync"
	"testing"

	"spyglass/sha"
)

// rolls answers numbers that look like none in particular, the same ones each time.
func rolls(seed uint64) func(below int) int {
	return func(below int) int {
		seed = seed*6364136223846793005 + 1442695040888963407
		return int((seed >> 33) % uint64(below))
	}
}

// some answers n bytes that look like none in particular.
func some(roll func(int) int, n int) []byte {
	b := make([]byte, n)
	for at := range b {
		b[at] = byte(roll(256))
	}
	return b
}

// edges are lengths at which blocks end, or nearly so, or at which the length begins to need one more block.
func edges() []int {
	l := []int{0, 1, 2, 3, 31, 32, 33}
	for block := 64; block <= 1024; block += 64 {
		for _, by := range []int{-10, -9, -8, -7, -2, -1, 0, 1, 2} {
			l = append(l, block+by)
		}
	}
	return l
}

// holds fails, if the sum of the parts isn't that of all their bytes.
func holds(t *testing.T, name string, all []byte, parts ...[]byte) {
	t.Helper()
	if got, want := sha.Sum(parts...), sha256.Sum256(all); got != want {
		t.Fatalf("%s: %d bytes in %d parts: %x, not %x", name, len(all), len(parts), got, want)
	}
}

// P3.1

func TestSumOfWhatIsKnown(t *testing.T) {
	for _, x := range []struct {
		in, want string
	}{
		{"", "e3b0c44298fc1c149afbf4c8996fb92427ae41e4649b934ca495991b7852b855"},
		{"abc", "ba7816bf8f01cfea414140de5dae2223b00361a396177a9cb410ff61f20015ad"},
		{"a", "ca978112ca1bbdcafac231b39a23dc4da786eff8147c4e72b9807785afee48bb"},
		{"abcdbcdecdefdefgefghfghighijhijkijkljklmklmnlmnomnopnopq", "248d6a61d20638b8e5c026930c3e6039a33ce45964ff2167f6ecedd419db06c1"},
		{"abcdefghbcdefghicdefghijdefghijkefghijklfghijklmghijklmnhijklmnoijklmnopjklmnopqklmnopqrlmnopqrsmnopqrstnopqrstu", "cf5b16a778af8380036ce59e7b0492370b249b11e8f07a51afac45037afee9d1"},
		{strings.Repeat("a", 1000000), "cdc76e5c9914fb9281a1c7e284d73e67f1809a48a497200e046d39ccc7112cd0"},
		{"\x00", "6e340b9cffb37a989ca544e6bb780a2c78901d3fb33738768511a30617afa01d"},
		{strings.Repeat("\x00", 55), "02779466cdec163811d078815c633f21901413081449002f24aa3e80f0b88ef7"},
		{strings.Repeat("\x00", 56), "d4817aa5497628e7c77e6b606107042bbba3130888c5f47a375e6179be789fbb"},
		{strings.Repeat("\x00", 64), "f5a5fd42d16a20302798ef6ed309979b43003d2320d9f0e8ea9831a92759fb4b"},
	} {
		sum := sha.Sum([]byte(x.in))
		if got := hex.EncodeToString(sum[:]); got != x.want {
			t.Errorf("%d bytes: %s, not %s", len(x.in), got, x.want)
		}
	}
}

func TestSumAtTheEndsOfBlocks(t *testing.T) {
	roll := rolls(1)
	for _, n := range edges() {
		for _, fill := range []byte{0, 1, 127, 128, 255} {
			b := bytes.Repeat([]byte{fill}, n)
			holds(t, "one byte again and again", b, b)
		}
		b := some(roll, n)
		holds(t, "any bytes", b, b)
	}
}

func TestSumOfEachLength(t *testing.T) {
	b := some(rolls(2), 700)
	for n := range b {
		holds(t, "a beginning", b[:n], b[:n])
	}
}

func TestSumOfManyBlocks(t *testing.T) {
	b := some(rolls(3), 1<<20+3)
	for _, n := range []int{4095, 4096, 4097, 8183, 8184, 65535, 65536, 65537, 1 << 20, 1<<20 + 3} {
		holds(t, "many blocks", b[:n], b[:n])
	}
}

func TestSumOfEachByte(t *testing.T) {
	for at := range 64 {
		for x := range 256 {
			b := make([]byte, 64)
			b[at] = byte(x)
			holds(t, "one byte that is another", b, b)
		}
	}
}

func TestNoughtsBehindCount(t *testing.T) {
	seen := map[[32]byte]int{}
	for _, n := range edges() {
		b := append([]byte{5}, make([]byte, n)...)
		sum := sha.Sum(b)
		if was, ok := seen[sum]; ok && was != n {
			t.Errorf("%d and %d noughts have one sum", was, n)
		}
		seen[sum] = n
	}
}

// The length in bits takes more than four bytes from 2^29 bytes on.
func TestSumOfMoreThanFourBytesOfLength(t *testing.T) {
	if testing.Short() {
		t.Skip("goes over 512 MiB")
	}
	one := some(rolls(4), 1<<20)
	parts := slices.Repeat([][]byte{one}, 1<<9)
	parts = append(parts, one[:61])
	want := sha256.New()
	for _, part := range parts {
		want.Write(part)
	}
	if got := sha.Sum(parts...); !bytes.Equal(got[:], want.Sum(nil)) {
		t.Errorf("2^29 + 61 bytes: %x, not %x", got, want.Sum(nil))
	}
}

// P3.2

func TestCutInTwo(t *testing.T) {
	roll := rolls(5)
	for _, n := range []int{1, 2, 3, 55, 56, 57, 63, 64, 65, 119, 120, 121, 127, 128, 129, 200, 320} {
		b := some(roll, n)
		for cut := range n + 1 {
			holds(t, "cut in two", b, b[:cut], b[cut:])
		}
	}
}

func TestCutInThree(t *testing.T) {
	roll := rolls(6)
	for _, n := range []int{3, 64, 119, 130} {
		b := some(roll, n)
		for first := range n + 1 {
			for second := first; second <= n; second++ {
				holds(t, "cut in three", b, b[:first], b[first:second], b[second:])
			}
		}
	}
}

func TestCutInPiecesOfOneSize(t *testing.T) {
	b := some(rolls(7), 1000)
	for size := 1; size <= 200; size++ {
		holds(t, "pieces of one size", b, slices.Collect(slices.Chunk(b, size))...)
	}
}

func TestCutAnyhow(t *testing.T) {
	roll := rolls(8)
	for range 4000 {
		b := some(roll, roll(600))
		var parts [][]byte
		for at := 0; at < len(b); {
			size := min(roll(1+roll(150)), len(b)-at)
			parts = append(parts, b[at:at+size])
			at += size
		}
		holds(t, "cut anyhow", b, parts...)
	}
}

func TestNoPartsAndPartsWithoutBytes(t *testing.T) {
	none := sha256.Sum256(nil)
	for name, got := range map[string][32]byte{
		"no parts":              sha.Sum(),
		"no list of parts":      sha.Sum([][]byte(nil)...),
		"a list without parts":  sha.Sum([][]byte{}...),
		"a nil part":            sha.Sum(nil),
		"an empty part":         sha.Sum([]byte{}),
		"several without bytes": sha.Sum(nil, []byte{}, nil, []byte{}),
	} {
		if got != none {
			t.Errorf("%s: %x, not %x", name, got, none)
		}
	}
	holds(t, "many without bytes", nil, make([][]byte, 100000)...)
}

func TestPartsWithoutBytesWhereverTheyStand(t *testing.T) {
	roll := rolls(9)
	for _, n := range []int{1, 3, 55, 56, 63, 64, 65, 119, 120, 128, 192, 250} {
		b := some(roll, n)
		for cut := range n + 1 {
			holds(t, "ahead", b, nil, b[:cut], b[cut:])
			holds(t, "ahead", b, []byte{}, []byte{}, b[:cut], b[cut:])
			holds(t, "between", b, b[:cut], nil, b[cut:])
			holds(t, "between", b, b[:cut], []byte{}, nil, b[cut:])
			holds(t, "behind", b, b[:cut], b[cut:], nil)
			holds(t, "everywhere", b, nil, b[:cut], []byte{}, b[cut:], nil, []byte{})
		}
	}
}

func TestTheOrderOfPartsCounts(t *testing.T) {
	a, b := []byte("ab"), []byte("c")
	if sha.Sum(a, b) == sha.Sum(b, a) {
		t.Error("ab, c and c, ab have one sum")
	}
	holds(t, "the other way round", []byte("cab"), b, a)
}

func TestPartsThatShareMemory(t *testing.T) {
	b := some(rolls(10), 100)
	holds(t, "the same part again", slices.Repeat(b, 3), b, b, b)
	holds(t, "parts that lie over one another", slices.Concat(b[:70], b[30:], b[50:51]), b[:70], b[30:], b[50:51])
}

// R2

func TestWhatWasSummedAheadPlaysNoPart(t *testing.T) {
	roll := rolls(11)
	for range 200 {
		b := some(roll, roll(300))
		first := sha.Sum(b)
		sha.Sum(some(roll, roll(300)), nil, some(roll, roll(300)))
		if again := sha.Sum(b); again != first {
			t.Fatalf("%d bytes: first %x, then %x", len(b), first, again)
		}
	}
}

func TestManyAtOnce(t *testing.T) {
	b := some(rolls(12), 5000)
	want := sha256.Sum256(b)
	var all sync.WaitGroup
	for n := range 8 {
		all.Go(func() {
			for range 50 {
				if got := sha.Sum(b[:n], b[n:]); got != want {
					t.Errorf("cut at %d: %x, not %x", n, got, want)
				}
			}
		})
	}
	all.Wait()
}

// R3

func TestWhatIsHandedInStaysAsItIs(t *testing.T) {
	for _, n := range edges() {
		room := some(rolls(uint64(n)), n+200)
		was := bytes.Clone(room)
		kept := bytes.Repeat([]byte{7}, 9)
		parts := [][]byte{room[: n/2 : n/2], nil, room[n/2 : n], kept}
		sha.Sum(parts[:3]...)
		sha.Sum(room[:n])
		if !bytes.Equal(room, was) {
			t.Fatalf("%d bytes: they or their spare room are others now", n)
		}
		if len(parts[0]) != n/2 || parts[1] != nil || len(parts[2]) != n-n/2 || len(parts[3]) != 9 || !bytes.Equal(kept, bytes.Repeat([]byte{7}, 9)) {
			t.Fatalf("%d bytes: the list of parts is another now", n)
		}
		if n > 1 && (&parts[0][0] != &room[0] || &parts[2][0] != &room[n/2]) {
			t.Fatalf("%d bytes: the list has other parts now", n)
		}
	}
}

func TestWhatIsHandedInIsNotKept(t *testing.T) {
	b := []byte("abc")
	first := sha.Sum(b)
	b[1] = 'x'
	if first != sha256.Sum256([]byte("abc")) {
		t.Errorf("the sum is another once the bytes are: %x", first)
	}
	holds(t, "bytes that were others ahead", []byte("axc"), b)
}
