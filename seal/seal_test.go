package seal_test

import (
	"bytes"
	"crypto/hmac"
	"crypto/sha256"
	"encoding/binary"
	"encoding/hex"
	"math"
	"strconv"
	"strings"
	"sync"
	"testing"

	"spyglass/api"
	"spyglass/mac"
	"spyglass/seal"
)

// What a datagram is made of, as numbers of their own, so that another limit would be seen.
const (
	most      = 512
	mostEpoch = 1 << 20
	mostSeq   = 1 << 62
	head      = 14
	tagLength = 16
	least     = head + tagLength
)

// rolls answers numbers that look like none in particular, the same ones each time.
func rolls(seed uint64) func(below int) int {
	return func(below int) int {
		seed = seed*6364136223846793005 + 1442695040888963407
		return int((seed >> 33) % uint64(below))
	}
}

// some answers n bytes that look like none in particular.
func some(roll func(int) int, n int) []byte {
	b := make([]byte, n)
	for at := range b {
		b[at] = byte(roll(256))
	}
	return b
}

// numbered answers the bytes 0, 1, 2 and so on.
func numbered(n int) []byte {
	b := make([]byte, n)
	for at := range b {
		b[at] = byte(at)
	}
	return b
}

// keys are keys at whose lengths something begins or ends: none, an empty one, and up to such as are summed ahead of their use.
func keys() [][]byte {
	l := [][]byte{nil, {}}
	for _, n := range []int{1, 2, 31, 32, 33, 63, 64, 65, 66, 128, 200} {
		l = append(l, some(rolls(uint64(n)), n))
	}
	return l
}

func epochs() []uint32 {
	return []uint32{0, 1, 2, 255, 256, 65535, 65536, 66051, mostEpoch - 1, mostEpoch}
}

func epochsBeyond() []uint32 {
	return []uint32{mostEpoch + 1, mostEpoch + 2, 2 * mostEpoch, 1<<24 + 1, 1 << 31, math.MaxUint32}
}

func seqs() []uint64 {
	return []uint64{0, 1, 255, 256, 65536, 1<<32 - 1, 1 << 32, 1 << 40, 1 << 61, mostSeq - 1, mostSeq}
}

func seqsBeyond() []uint64 {
	return []uint64{mostSeq + 1, mostSeq + 2, mostSeq + 1<<32, 1<<63 - 1, 1 << 63, 1<<63 + 1, math.MaxUint64}
}

// bodyLengths are lengths of bodies that may be.
func bodyLengths() []int {
	return []int{0, 1, 2, 15, 16, 17, 34, 35, 49, 50, 51, 63, 64, 65, 255, 256, most - 1, most}
}

// headers are headers that may be, with all edges.
func headers() []api.Header {
	var l []api.Header
	for kind := uint8(1); kind <= 5; kind++ {
		for _, down := range []bool{false, true} {
			for _, epoch := range epochs() {
				for _, seq := range seqs() {
					l = append(l, api.Header{Kind: kind, Down: down, Epoch: epoch, Seq: seq})
				}
			}
		}
	}
	return l
}

// badHeaders are headers that may not be, by what is wrong.
func badHeaders() map[string]api.Header {
	l := map[string]api.Header{"the zero one": {}, "all beyond": {Kind: 255, Down: true, Epoch: math.MaxUint32, Seq: math.MaxUint64}}
	for _, kind := range []uint8{0, 6, 7, 100, 127, 128, 129, 132, 255} {
		l["kind "+strconv.Itoa(int(kind))] = api.Header{Kind: kind, Epoch: 1, Seq: 5}
		l["kind "+strconv.Itoa(int(kind))+" down"] = api.Header{Kind: kind, Down: true}
	}
	for _, epoch := range epochsBeyond() {
		for kind := uint8(1); kind <= 5; kind++ {
			l["epoch "+strconv.FormatUint(uint64(epoch), 10)+" kind "+strconv.Itoa(int(kind))] = api.Header{Kind: kind, Epoch: epoch, Seq: 5}
		}
	}
	for _, seq := range seqsBeyond() {
		for kind := uint8(1); kind <= 5; kind++ {
			l["seq "+strconv.FormatUint(seq, 10)+" kind "+strconv.Itoa(int(kind))] = api.Header{Kind: kind, Down: true, Epoch: 1, Seq: seq}
		}
	}
	return l
}

// may tells whether a datagram may have this header.
func may(h api.Header) bool {
	return h.Kind >= 1 && h.Kind <= 5 && h.Epoch <= mostEpoch && h.Seq <= mostSeq
}

// laid answers bytes as a datagram has them, whether its header may be or not, with any byte for the way, and the right tag.
func laid(key []byte, h api.Header, way byte, body []byte) []byte {
	b := []byte{h.Kind, way}
	b = binary.BigEndian.AppendUint32(b, h.Epoch)
	b = binary.BigEndian.AppendUint64(b, h.Seq)
	b = append(b, body...)
	return append(b, rightTag(key, b)...)
}

// rightTag answers the tag of all that stands ahead of it, as the library makes it.
func rightTag(key, ahead []byte) []byte {
	m := hmac.New(sha256.New, key)
	m.Write(ahead)
	return m.Sum(nil)[:tagLength]
}

// wayOf answers the byte for a way.
func wayOf(down bool) byte {
	if down {
		return 1
	}
	return 0
}

// wantSeal answers what Seal has to.
func wantSeal(key []byte, h api.Header, body []byte) ([]byte, api.Errno) {
	switch {
	case !may(h):
		return nil, api.ErrArg
	case len(body) > most:
		return nil, api.ErrLong
	}
	return laid(key, h, wayOf(h.Down), body), api.OK
}

// wantPeek answers what Peek has to.
func wantPeek(b []byte) (api.Header, api.Errno) {
	switch {
	case len(b) < least:
		return api.Header{}, api.ErrShort
	case len(b) > least+most:
		return api.Header{}, api.ErrLong
	}
	h := api.Header{Kind: b[0], Down: b[1] == 1, Epoch: binary.BigEndian.Uint32(b[2:]), Seq: binary.BigEndian.Uint64(b[6:])}
	if b[1] > 1 || !may(h) {
		return api.Header{}, api.ErrForm
	}
	return h, api.OK
}

// wantOpen answers what Open has to.
func wantOpen(key, b []byte) (api.Header, []byte, api.Errno) {
	h, e := wantPeek(b)
	if e != api.OK {
		return api.Header{}, nil, e
	}
	end := len(b) - tagLength
	if !bytes.Equal(rightTag(key, b[:end]), b[end:]) {
		return api.Header{}, nil, api.ErrTag
	}
	return h, b[head:end], api.OK
}

// sealHolds fails, if Seal doesn't answer what it has to; else it answers that.
func sealHolds(t *testing.T, name string, key []byte, h api.Header, body []byte) []byte {
	t.Helper()
	want, wantE := wantSeal(key, h, body)
	got, e := seal.Seal(key, h, body)
	if e != wantE || !bytes.Equal(got, want) {
		t.Fatalf("%s: Seal(%x, %v, %d bytes): %x, %d, not %x, %d", name, key, h, len(body), got, e, want, wantE)
	}
	return got
}

// peekHolds fails, if Peek doesn't answer what it has to.
func peekHolds(t *testing.T, name string, b []byte) {
	t.Helper()
	want, wantE := wantPeek(b)
	if h, e := seal.Peek(b); h != want || e != wantE {
		t.Fatalf("%s: Peek(%x): %v, %d, not %v, %d", name, b, h, e, want, wantE)
	}
}

// openHolds fails, if Open, or Peek of the same, doesn't answer what it has to.
func openHolds(t *testing.T, name string, key, b []byte) {
	t.Helper()
	peekHolds(t, name, b)
	want, wantBody, wantE := wantOpen(key, b)
	if h, body, e := seal.Open(key, b); h != want || !bytes.Equal(body, wantBody) || e != wantE {
		t.Fatalf("%s: Open(%x, %x): %v, %x, %d, not %v, %x, %d", name, key, b, h, body, e, want, wantBody, wantE)
	}
}

// refused fails, if Open answers another error, or anything beside it.
func refused(t *testing.T, name string, key, b []byte, want api.Errno) {
	t.Helper()
	if h, body, e := seal.Open(key, b); h != (api.Header{}) || len(body) > 0 || e != want {
		t.Fatalf("%s: Open of %d bytes: %v, %x, %d, not error %d", name, len(b), h, body, e, want)
	}
}

// opened fails, if bytes aren't opened as this.
func opened(t *testing.T, name string, key, b []byte, want api.Header, wantBody []byte) {
	t.Helper()
	if h, body, e := seal.Open(key, b); h != want || !bytes.Equal(body, wantBody) || e != api.OK {
		t.Fatalf("%s: Open of %d bytes: %v, %x, %d, not %v, %x", name, len(b), h, body, e, want, wantBody)
	}
}

// unhex answers the bytes of digits.
func unhex(t *testing.T, s string) []byte {
	t.Helper()
	b, err := hex.DecodeString(s)
	if err != nil {
		t.Fatal(err)
	}
	return b
}

// P6.1: what is known

func TestDatagramsThatAreKnown(t *testing.T) {
	for _, x := range []struct {
		key       []byte
		h         api.Header
		body      []byte
		head, tag string
	}{
		{[]byte("k"), api.Header{Kind: api.KData, Epoch: 1, Seq: 5}, []byte("ab"), "0400000000010000000000000005", "bf1dc3be559a413b70ce6b4975971322"},
		{nil, api.Header{Kind: api.KHello}, nil, "0100000000000000000000000000", "038f88b68124a1c12bb4ca3f15b1b657"},
		{[]byte("k"), api.Header{Kind: api.KClose, Down: true, Epoch: mostEpoch, Seq: mostSeq}, []byte("x"), "0501001000004000000000000000", "aa1df150b43f16f6cfc32d5137ced3f8"},
		{[]byte("secret"), api.Header{Kind: api.KConfirm, Down: true, Epoch: 66051, Seq: 0x0102030405060708}, []byte{0, 255}, "0301000102030102030405060708", "dfe34633b04b7d520c0e83eaad6d4c0f"},
		{numbered(64), api.Header{Kind: api.KSelect, Down: true, Epoch: 65536, Seq: 256}, []byte("select"), "0201000100000000000000000100", "d5998858d651ffb657fce34b18aa6c38"},
		{numbered(65), api.Header{Kind: api.KData, Down: true, Epoch: 258, Seq: 1 << 61}, bytes.Repeat([]byte{7}, most), "0401000001022000000000000000", "7c9d93b7ddf5788ee0b767e11a8aa71a"},
	} {
		want := append(append(unhex(t, x.head), x.body...), unhex(t, x.tag)...)
		if b, e := seal.Seal(x.key, x.h, x.body); e != api.OK || !bytes.Equal(b, want) {
			t.Errorf("Seal of %v: %x, %d, not %x", x.h, b, e, want)
		}
		if h, e := seal.Peek(want); e != api.OK || h != x.h {
			t.Errorf("Peek: %v, %d, not %v", h, e, x.h)
		}
		opened(t, "known", x.key, want, x.h, x.body)
	}
}

func TestTheChaptersExample(t *testing.T) {
	b, e := seal.Seal([]byte("k"), api.Header{Kind: api.KData, Epoch: 1, Seq: 5}, []byte("ab"))
	if e != api.OK || len(b) != 32 || string(b[:16]) != "\x04\x00\x00\x00\x00\x01\x00\x00\x00\x00\x00\x00\x00\x05ab" {
		t.Fatalf("%x, %d", b, e)
	}
	refused(t, "without the last byte", []byte("k"), b[:31], api.ErrTag)
	refused(t, "29 bytes", []byte("k"), b[:29], api.ErrShort)
	b[31] ^= 1
	refused(t, "the last byte turned", []byte("k"), b, api.ErrTag)
}

// P6.1: Seal

func TestSealOfAllHeaders(t *testing.T) {
	roll := rolls(1)
	for at, h := range headers() {
		key := keys()[at%len(keys())]
		body := some(roll, bodyLengths()[at%len(bodyLengths())])
		if b := sealHolds(t, "a header", key, h, body); len(b) != least+len(body) {
			t.Fatalf("%v, body of %d bytes: %d bytes", h, len(body), len(b))
		}
	}
}

func TestSealOfEachLengthAndKey(t *testing.T) {
	roll := rolls(2)
	h := api.Header{Kind: api.KData, Down: true, Epoch: 7, Seq: 9}
	for n := range most + 1 {
		sealHolds(t, "a length", []byte("key"), h, some(roll, n))
	}
	for _, key := range keys() {
		for _, n := range bodyLengths() {
			sealHolds(t, "a key", key, h, some(roll, n))
		}
	}
}

func TestSealRefusesHeadersThatMayNotBe(t *testing.T) {
	for name, h := range badHeaders() {
		for _, n := range []int{0, 1, most, most + 1, 100000} {
			b, e := seal.Seal([]byte("key"), h, make([]byte, n))
			if e != api.ErrArg || len(b) > 0 {
				t.Errorf("%s, body of %d bytes: %x, %d", name, n, b, e)
			}
		}
	}
}

func TestSealOfEachKind(t *testing.T) {
	for kind := range 256 {
		h := api.Header{Kind: uint8(kind), Epoch: 1, Seq: 1}
		sealHolds(t, "a kind", []byte("key"), h, []byte("body"))
		h.Down = true
		sealHolds(t, "a kind", []byte("key"), h, nil)
	}
}

func TestSealRefusesLongBodies(t *testing.T) {
	for _, n := range []int{most + 1, most + 2, 542, 543, 1024, 4096, 4097, 65536, 1 << 20} {
		for _, h := range []api.Header{{Kind: api.KHello}, {Kind: api.KClose, Down: true, Epoch: mostEpoch, Seq: mostSeq}} {
			if b, e := seal.Seal(nil, h, make([]byte, n)); e != api.ErrLong || len(b) > 0 {
				t.Errorf("%v, body of %d bytes: %x, %d", h, n, b, e)
			}
		}
	}
}

// P6.1: Peek

func TestPeekOfAllHeaders(t *testing.T) {
	for _, h := range headers() {
		b := laid(nil, h, wayOf(h.Down), []byte("body"))
		if got, e := seal.Peek(b); got != h || e != api.OK {
			t.Fatalf("%v, %d, not %v", got, e, h)
		}
	}
}

func TestPeekAsksNothingOfTheTag(t *testing.T) {
	roll := rolls(3)
	for at, h := range headers() {
		b := laid(nil, h, wayOf(h.Down), some(roll, at%20))
		copy(b[len(b)-tagLength:], some(roll, tagLength))
		if got, e := seal.Peek(b); got != h || e != api.OK {
			t.Fatalf("%v, %d, not %v", got, e, h)
		}
		refused(t, "no tag", nil, b, api.ErrTag)
	}
	b := append([]byte{api.KData, 1, 0, 0, 0, 9, 0, 0, 0, 0, 0, 0, 0, 3}, make([]byte, tagLength)...)
	if h, e := seal.Peek(b); e != api.OK || h != (api.Header{Kind: api.KData, Down: true, Epoch: 9, Seq: 3}) {
		t.Errorf("a tag of noughts: %v, %d", h, e)
	}
}

func TestPeekAndOpenOfEachLength(t *testing.T) {
	key := []byte("key")
	for n := range 700 {
		b := make([]byte, n)
		copy(b, []byte{api.KData, 1, 0, 0, 0, 9, 0, 0, 0, 0, 0, 0, 0, 3})
		if n >= tagLength {
			copy(b[n-tagLength:], rightTag(key, b[:n-tagLength]))
		}
		openHolds(t, "a length", key, b)
	}
	for n, want := range map[int]api.Errno{0: api.ErrShort, 1: api.ErrShort, 14: api.ErrShort, 29: api.ErrShort, 30: api.OK, 31: api.OK, 541: api.OK, 542: api.OK, 543: api.ErrLong, 1024: api.ErrLong, 1 << 20: api.ErrLong} {
		b := make([]byte, n)
		copy(b, []byte{api.KData})
		if h, e := seal.Peek(b); e != want || (e == api.OK) != (h == api.Header{Kind: api.KData}) || e != api.OK && h != (api.Header{}) {
			t.Errorf("%d bytes: %v, %d, not %d", n, h, e, want)
		}
	}
	if h, e := seal.Peek(nil); e != api.ErrShort || h != (api.Header{}) {
		t.Errorf("no bytes: %v, %d", h, e)
	}
	refused(t, "no bytes", key, nil, api.ErrShort)
}

func TestOfEachKindAndEachByteForTheWay(t *testing.T) {
	key := []byte("key")
	for kind := range 256 {
		for way := range 256 {
			b := laid(key, api.Header{Kind: uint8(kind), Epoch: 1, Seq: 5}, byte(way), []byte("ab"))
			openHolds(t, "kind and way", key, b)
			_, e := seal.Peek(b)
			if ok := kind >= 1 && kind <= 5 && way <= 1; ok != (e == api.OK) || !ok && e != api.ErrForm {
				t.Fatalf("kind %d, way %d: %d", kind, way, e)
			}
		}
	}
}

func TestHeadersThatMayNotBeAreRefusedWithTheRightTagToo(t *testing.T) {
	key := []byte("key")
	for name, h := range badHeaders() {
		for _, n := range []int{0, 1, most} {
			b := laid(key, h, wayOf(h.Down), make([]byte, n))
			if got, e := seal.Peek(b); e != api.ErrForm || got != (api.Header{}) {
				t.Errorf("%s: Peek: %v, %d", name, got, e)
			}
			refused(t, name, key, b, api.ErrForm)
			refused(t, name+" by another key", []byte("other"), b, api.ErrForm)
		}
	}
}

// R6

func TestTheErrorThatIsNamedFirst(t *testing.T) {
	key := []byte("key")
	bad := badHeaders()
	for _, name := range []string{"the zero one", "all beyond", "kind 0", "kind 6"} {
		for n := range least {
			b := laid(key, bad[name], 2, nil)[:n]
			refused(t, name+" and short", key, b, api.ErrShort)
			peekHolds(t, name+" and short", b)
		}
		for _, n := range []int{most + 1, most + 2, 1000} {
			b := laid(key, bad[name], 2, make([]byte, n))
			refused(t, name+" and long", key, b, api.ErrLong)
			peekHolds(t, name+" and long", b)
		}
	}
	long := laid(key, api.Header{Kind: api.KData}, 0, make([]byte, most+1))
	refused(t, "long, with the right tag", key, long, api.ErrLong)
	refused(t, "long, by another key", []byte("other"), long, api.ErrLong)
	if b, e := seal.Seal(key, api.Header{Kind: 6}, make([]byte, most+1)); e != api.ErrArg || len(b) > 0 {
		t.Errorf("Seal of a header that may not be and a long body: %x, %d", b, e)
	}
}

// P6.2

func TestWhatIsSealedIsOpenedAsItWas(t *testing.T) {
	roll := rolls(4)
	for at, h := range headers() {
		key := keys()[at%len(keys())]
		body := some(roll, bodyLengths()[roll(len(bodyLengths()))])
		b, e := seal.Seal(key, h, body)
		if e != api.OK {
			t.Fatalf("Seal of %v: %d", h, e)
		}
		opened(t, "a header", key, b, h, body)
		if got, e := seal.Peek(b); got != h || e != api.OK {
			t.Fatalf("Peek: %v, %d, not %v", got, e, h)
		}
	}
}

func TestBodiesOfEachLengthComeBack(t *testing.T) {
	roll := rolls(5)
	h := api.Header{Kind: api.KData, Epoch: 3, Seq: 4}
	for n := range most + 1 {
		for _, body := range [][]byte{some(roll, n), make([]byte, n), bytes.Repeat([]byte{255}, n)} {
			b, e := seal.Seal([]byte("key"), h, body)
			if e != api.OK || len(b) != least+n {
				t.Fatalf("body of %d bytes: %d bytes, %d", n, len(b), e)
			}
			opened(t, "a length", []byte("key"), b, h, body)
		}
	}
}

// A body may look like anything: a datagram, a tag.
func TestADatagramInADatagram(t *testing.T) {
	key, h := []byte("key"), api.Header{Kind: api.KData, Epoch: 1, Seq: 1}
	var b []byte
	for n := uint64(0); len(b) <= most; n++ {
		within := b
		outer := h
		outer.Seq += n
		got, e := seal.Seal(key, outer, within)
		if e != api.OK {
			t.Fatalf("%d within one another: %d", n, e)
		}
		opened(t, "within", key, got, outer, within)
		b = got
	}
}

// alike tells whether what is opened, if it is, is sealed as the same bytes again.
func alike(t *testing.T, key, b []byte) bool {
	t.Helper()
	h, body, e := seal.Open(key, b)
	if e != api.OK {
		return true
	}
	again, e := seal.Seal(key, h, body)
	return e == api.OK && bytes.Equal(again, b)
}

func TestWhatIsOpenedIsJustWhatIsSealedOfIt(t *testing.T) {
	roll := rolls(6)
	kinds := []byte{0, 1, 2, 3, 4, 5, 6, 255}
	ways := []byte{0, 0, 1, 1, 2, 3, 128, 255}
	count := 0
	for range 20000 {
		key := keys()[roll(len(keys()))]
		h := api.Header{Kind: kinds[roll(len(kinds))], Epoch: epochs()[roll(len(epochs()))], Seq: seqs()[roll(len(seqs()))]}
		if roll(10) == 0 {
			h.Epoch = epochsBeyond()[roll(len(epochsBeyond()))]
		}
		if roll(10) == 0 {
			h.Seq = seqsBeyond()[roll(len(seqsBeyond()))]
		}
		b := laid(key, h, ways[roll(len(ways))], some(roll, roll(540)))
		openHolds(t, "any bytes", key, b)
		if !alike(t, key, b) {
			t.Fatalf("what is opened is sealed as other bytes: %x", b)
		}
		if _, _, e := seal.Open(key, b); e == api.OK {
			count++
		}
	}
	if count < 1000 {
		t.Errorf("only %d were opened", count)
	}
}

func TestAnyBytesAreRefused(t *testing.T) {
	roll := rolls(7)
	for range 20000 {
		b := some(roll, roll(600))
		if len(b) > 6 && roll(2) == 0 {
			copy(b, []byte{byte(1 + roll(5)), byte(roll(2)), 0, 0, 0, 1, 0})
		}
		key := some(roll, roll(70))
		openHolds(t, "any bytes", key, b)
		if _, _, e := seal.Open(key, b); e == api.OK {
			t.Fatalf("opened: %x", b)
		}
	}
}

func TestNoTwoThingsAreSealedAlike(t *testing.T) {
	seen := map[string]string{}
	for _, h := range headers() {
		for _, body := range []string{"", "\x00", "\x00\x00", "a", "ab"} {
			b, _ := seal.Seal([]byte("key"), h, []byte(body))
			name := strconv.Itoa(int(h.Kind)) + " " + strconv.FormatBool(h.Down) + " " + strconv.Itoa(int(h.Epoch)) + " " + strconv.FormatUint(h.Seq, 10) + " " + strconv.Quote(body)
			if was, ok := seen[string(b)]; ok {
				t.Fatalf("%s and %s are sealed alike", was, name)
			}
			seen[string(b)] = name
		}
	}
}

// P6.3

// sealed are datagrams of some lengths, and what they were sealed of.
func sealed(t *testing.T, key []byte) map[string][]byte {
	t.Helper()
	roll := rolls(8)
	l := map[string][]byte{}
	for kind := uint8(1); kind <= 5; kind++ {
		for _, n := range []int{0, 1, 2, 16, 33, 100, most} {
			h := api.Header{Kind: kind, Down: roll(2) == 1, Epoch: uint32(roll(mostEpoch)), Seq: uint64(roll(1 << 30))}
			l["kind "+strconv.Itoa(int(kind))+", body of "+strconv.Itoa(n)] = sealHolds(t, "sealed", key, h, some(roll, n))
		}
	}
	return l
}

func TestEachBitOfATagCounts(t *testing.T) {
	for _, key := range [][]byte{nil, []byte("key"), some(rolls(9), 65)} {
		for name, b := range sealed(t, key) {
			for at := len(b) - tagLength; at < len(b); at++ {
				for bit := range 8 {
					b[at] ^= 1 << bit
					refused(t, name+", a bit of the tag turned", key, b, api.ErrTag)
					b[at] ^= 1 << bit
				}
				was := b[at]
				b[at] = ^was
				refused(t, name+", a byte of the tag turned", key, b, api.ErrTag)
				b[at] = was
			}
			if _, _, e := seal.Open(key, b); e != api.OK {
				t.Fatalf("%s, turned back: %d", name, e)
			}
		}
	}
}

func TestEachByteOfATagCountsWhateverItIs(t *testing.T) {
	key := []byte("key")
	b, _ := seal.Seal(key, api.Header{Kind: api.KData, Epoch: 1, Seq: 5}, []byte("ab"))
	for at := len(b) - tagLength; at < len(b); at++ {
		was := b[at]
		for by := range 255 {
			b[at] = was + byte(by) + 1
			refused(t, "another byte of the tag", key, b, api.ErrTag)
		}
		b[at] = was
	}
}

// What stands ahead of the tag turned makes another header, or one that may not be, or another body: none of them opens.
func TestEachByteAheadOfATagCounts(t *testing.T) {
	key := []byte("key")
	for name, b := range sealed(t, key) {
		for at := range len(b) - tagLength {
			for bit := range 8 {
				b[at] ^= 1 << bit
				openHolds(t, name, key, b)
				if _, _, e := seal.Open(key, b); e != api.ErrTag && (at >= head || e != api.ErrForm) {
					t.Fatalf("%s, bit %d of byte %d turned: %d", name, bit, at, e)
				}
				b[at] ^= 1 << bit
			}
			b[at] = ^b[at]
			openHolds(t, name, key, b)
			if _, _, e := seal.Open(key, b); e == api.OK {
				t.Fatalf("%s, byte %d turned: opened", name, at)
			}
			b[at] = ^b[at]
		}
	}
}

func TestOtherTags(t *testing.T) {
	key := []byte("key")
	for name, b := range sealed(t, key) {
		ahead, tag := b[:len(b)-tagLength], b[len(b)-tagLength:]
		m := hmac.New(sha256.New, key)
		m.Write(ahead)
		whole := m.Sum(nil)
		plain := sha256.Sum256(ahead)
		keyed := sha256.Sum256(append(bytes.Clone(key), ahead...))
		reversed := bytes.Clone(tag)
		for at := range reversed {
			reversed[at] = tag[tagLength-1-at]
		}
		for what, other := range map[string][]byte{
			"noughts":             make([]byte, tagLength),
			"bytes 255":           bytes.Repeat([]byte{255}, tagLength),
			"the code's end":      whole[16:],
			"the code's middle":   whole[8:24],
			"a sum without a key": plain[:tagLength],
			"a sum of the key":    keyed[:tagLength],
			"the tag reversed":    reversed,
			"the tag moved":       append(bytes.Clone(tag[1:]), tag[0]),
			"half of it":          append(bytes.Clone(tag[:8]), make([]byte, 8)...),
			"the other half":      append(make([]byte, 8), tag[8:]...),
			"the tag of no body":  rightTag(key, ahead[:head])[:tagLength],
			"of the body alone":   rightTag(key, ahead[head:])[:tagLength],
			"of one byte more":    rightTag(key, append(bytes.Clone(ahead), 0)),
			"of one byte less":    rightTag(key, ahead[:len(ahead)-1]),
		} {
			if bytes.Equal(other, tag) {
				continue
			}
			refused(t, name+", "+what, key, append(bytes.Clone(ahead), other...), api.ErrTag)
		}
	}
}

func TestATagIsOfOneDatagramAlone(t *testing.T) {
	key := []byte("key")
	all := sealed(t, key)
	for name, b := range all {
		for other, c := range all {
			if name != other {
				mixed := append(bytes.Clone(b[:len(b)-tagLength]), c[len(c)-tagLength:]...)
				refused(t, name+", with the tag of "+other, key, mixed, api.ErrTag)
			}
		}
	}
}

func TestCutAndLengthened(t *testing.T) {
	key := []byte("key")
	for name, b := range sealed(t, key) {
		for n := range b {
			want := api.ErrTag
			if n < least {
				want = api.ErrShort
			}
			refused(t, name+", cut", key, b[:n], want)
			if behind := b[len(b)-n:]; n < least {
				refused(t, name+", an end", key, behind, api.ErrShort)
			}
		}
		for more := 1; more < 40; more++ {
			want := api.ErrTag
			if len(b)+more > least+most {
				want = api.ErrLong
			}
			refused(t, name+", lengthened", key, append(bytes.Clone(b), make([]byte, more)...), want)
		}
	}
}

func TestAByteMoreOrLessAnywhere(t *testing.T) {
	key := []byte("key")
	b, _ := seal.Seal(key, api.Header{Kind: api.KData, Epoch: 1, Seq: 5}, []byte("some body"))
	for at := range b {
		less := append(bytes.Clone(b[:at]), b[at+1:]...)
		openHolds(t, "a byte less", key, less)
		if _, _, e := seal.Open(key, less); e == api.OK {
			t.Errorf("without byte %d: opened", at)
		}
		more := append(append(bytes.Clone(b[:at]), b[at]+1), b[at:]...)
		openHolds(t, "a byte more", key, more)
		if _, _, e := seal.Open(key, more); e == api.OK {
			t.Errorf("with a byte more at %d: opened", at)
		}
	}
}

func TestAnotherKey(t *testing.T) {
	for at, key := range keys() {
		b := sealHolds(t, "a key", key, api.Header{Kind: api.KData, Epoch: 1, Seq: 5}, []byte("ab"))
		for other, k := range keys() {
			// None and an empty one are the same key.
			if at == other || len(key) == 0 && len(k) == 0 {
				continue
			}
			refused(t, "another key", k, b, api.ErrTag)
		}
		for bit := range 8 * len(key) {
			k := bytes.Clone(key)
			k[bit/8] ^= 1 << (bit % 8)
			refused(t, "a bit of the key turned", k, b, api.ErrTag)
		}
		refused(t, "a key with one byte more", append(bytes.Clone(key), 1), b, api.ErrTag)
		if len(key) > 0 {
			refused(t, "a key with one byte less", key[:len(key)-1], b, api.ErrTag)
		}
	}
}

// P6.1: Base and Keys

func TestBaseOfWhatIsKnown(t *testing.T) {
	for _, x := range []struct {
		secret []byte
		want   string
	}{
		{nil, "0cac2fdfeb4f3bf5e0ac808db154af36d16903ffd17a13a991917e7d3e9295de"},
		{[]byte{}, "0cac2fdfeb4f3bf5e0ac808db154af36d16903ffd17a13a991917e7d3e9295de"},
		{[]byte("secret"), "841e07044427be456d54838d1b187961c0be170206a0454e009c010911652351"},
		{numbered(64), "9b79238bc154370565460005a3148d685aaf003e360ace533793714c99a4338d"},
		{numbered(65), "be604d22bd3b63d40ef813a81c99737e7d94e681e4348e425bbdacb65b49abac"},
	} {
		key := seal.Base(x.secret)
		if got := hex.EncodeToString(key[:]); got != x.want {
			t.Errorf("secret of %d bytes: %s, not %s", len(x.secret), got, x.want)
		}
	}
}

func TestKeysOfWhatIsKnown(t *testing.T) {
	rising, full := [32]byte(numbered(32)), [32]byte(bytes.Repeat([]byte{255}, 32))
	for _, x := range []struct {
		secret   []byte
		epoch    uint32
		hash     [32]byte
		up, down string
	}{
		{[]byte("secret"), 1, [32]byte{}, "1f36c9d3ec98e969e84df89fa240be26d1a57e5679efd6bc97c79cd2d95b2584", "ae034880e5d12a1462fd9fe40e58ca0bbc807ceba6764c29d453822bb30536bd"},
		{nil, 0, [32]byte{}, "7307d9907157c6f1734a9103fb2a58047ba4d934248c1466c3c1299ee4d44a7e", "62efc85ddb01ea8524b017a1fe862e2e2b4218fdad5788a82175a3af25d978f5"},
		{[]byte("secret"), mostEpoch, rising, "977953a78e1f5c2bd26acd17b82b0b12e28e0011f266956e2e4f62ba6c9d020a", "a6697daf640897f6bde7f780ec329358fc65458cdc450e97ceab2ee6369bb68f"},
		{[]byte("secret"), math.MaxUint32 - 1, full, "10ae82470bd8121d9f6a60b4531abc65a3e7a563a1958014ea384463acaa4f19", "4fd48e42560ee94ac69b96cfcf43218695799ffb38d25d235e381186aa92d0ed"},
		{numbered(65), 0x01020304, rising, "e4a47b8080c1e83343d47134da41e81dd01d99ea65a1946c8f413afdd2148953", "45f3798d0d61cdf79915ccb283a669a18542a3b542b22c5ab6988589fb533ac0"},
	} {
		k := seal.Keys(x.secret, x.epoch, x.hash)
		if up, down := hex.EncodeToString(k.Up[:]), hex.EncodeToString(k.Down[:]); up != x.up || down != x.down {
			t.Errorf("secret of %d bytes, epoch %d: %s and %s, not %s and %s", len(x.secret), x.epoch, up, down, x.up, x.down)
		}
	}
}

func TestBaseAndKeysAreDerived(t *testing.T) {
	roll := rolls(10)
	for _, secret := range keys() {
		if got, want := seal.Base(secret), mac.Derive(secret, "hello"); got != want {
			t.Errorf("Base of %x: %x, not %x", secret, got, want)
		}
		for _, epoch := range append(epochs(), epochsBeyond()...) {
			hash := [32]byte(some(roll, 32))
			number := binary.BigEndian.AppendUint32(nil, epoch)
			want := api.Keys{Up: mac.Derive(secret, "up", number, hash[:]), Down: mac.Derive(secret, "down", number, hash[:])}
			if got := seal.Keys(secret, epoch, hash); got != want {
				t.Errorf("Keys of %x, %d, %x: %x, not %x", secret, epoch, hash, got, want)
			}
		}
	}
}

// once keeps what came, and fails if one key comes for two names.
func once(t *testing.T) func(name string, key [32]byte) {
	seen := map[[32]byte]string{}
	return func(name string, key [32]byte) {
		t.Helper()
		if was, ok := seen[key]; ok {
			t.Errorf("one key for %s and for %s", was, name)
		}
		seen[key] = name
	}
}

func TestEachBitOfWhatKeysAreMadeOfCounts(t *testing.T) {
	differ := once(t)
	all := func(name string, secret []byte, epoch uint32, hash [32]byte) {
		t.Helper()
		k := seal.Keys(secret, epoch, hash)
		differ(name+", up", k.Up)
		differ(name+", down", k.Down)
	}
	secret, epoch, hash := some(rolls(11), 40), uint32(0x12345), [32]byte(some(rolls(12), 32))
	differ("Base", seal.Base(secret))
	all("nothing turned", secret, epoch, hash)
	for bit := range 32 {
		all("bit "+strconv.Itoa(bit)+" of the epoch", secret, epoch^1<<bit, hash)
	}
	for bit := range 8 * len(hash) {
		turned := hash
		turned[bit/8] ^= 1 << (bit % 8)
		all("bit "+strconv.Itoa(bit)+" of the hash", secret, epoch, turned)
	}
	for bit := range 8 * len(secret) {
		turned := bytes.Clone(secret)
		turned[bit/8] ^= 1 << (bit % 8)
		differ("Base, bit "+strconv.Itoa(bit)+" of the secret", seal.Base(turned))
		all("bit "+strconv.Itoa(bit)+" of the secret", turned, epoch, hash)
	}
}

func TestDatagramsUnderTheKeysThatAreMade(t *testing.T) {
	secret, hash := []byte("secret"), [32]byte{1, 2, 3}
	base, k := seal.Base(secret), seal.Keys(secret, 1, hash)
	next := seal.Keys(secret, 2, hash)
	all := [][32]byte{base, k.Up, k.Down, next.Up, next.Down}
	for at, key := range all {
		h := api.Header{Kind: api.KData, Epoch: 1, Seq: 7}
		b := sealHolds(t, "a key that was made", key[:], h, []byte("body"))
		for other, o := range all {
			if at == other {
				opened(t, "the same key", o[:], b, h, []byte("body"))
			} else {
				refused(t, "another key", o[:], b, api.ErrTag)
			}
		}
	}
}

// R2

func TestWhatWasAskedAheadPlaysNoPart(t *testing.T) {
	roll := rolls(13)
	key, h := []byte("key"), api.Header{Kind: api.KData, Epoch: 1, Seq: 5}
	b, _ := seal.Seal(key, h, []byte("body"))
	base := seal.Base(key)
	k := seal.Keys(key, 1, base)
	for range 500 {
		seal.Seal(some(roll, roll(70)), h, some(roll, roll(600)))
		seal.Open(some(roll, roll(70)), some(roll, roll(600)))
		seal.Peek(some(roll, roll(600)))
		again, e := seal.Seal(key, h, []byte("body"))
		if e != api.OK || !bytes.Equal(again, b) || seal.Base(key) != base || seal.Keys(key, 1, base) != k {
			t.Fatal("other answers the second time")
		}
		opened(t, "the second time", key, b, h, []byte("body"))
	}
}

func TestManyAtOnce(t *testing.T) {
	key, h := []byte("key"), api.Header{Kind: api.KData, Down: true, Epoch: 1, Seq: 5}
	b, _ := seal.Seal(key, h, []byte("body"))
	base, k := seal.Base(key), seal.Keys(key, 1, [32]byte{})
	var all sync.WaitGroup
	for range 8 {
		all.Go(func() {
			for range 200 {
				again, _ := seal.Seal(key, h, []byte("body"))
				got, body, e := seal.Open(key, b)
				if !bytes.Equal(again, b) || got != h || string(body) != "body" || e != api.OK || seal.Base(key) != base || seal.Keys(key, 1, [32]byte{}) != k {
					t.Error("other answers at once")
				}
			}
		})
	}
	all.Wait()
}

// R3

func TestWhatIsHandedInStaysAsItIs(t *testing.T) {
	roll := rolls(14)
	for _, k := range []int{0, 1, 32, 64, 65, 200} {
		for _, n := range []int{0, 1, 100, most, most + 1} {
			keyRoom, bodyRoom := some(roll, k+300), some(roll, n+300)
			keyWas, bodyWas := bytes.Clone(keyRoom), bytes.Clone(bodyRoom)
			h := api.Header{Kind: api.KData, Epoch: 1, Seq: 5}
			b, _ := seal.Seal(keyRoom[:k], h, bodyRoom[:n])
			room := append(bytes.Clone(b), some(roll, 300)...)
			was := bytes.Clone(room)
			seal.Peek(room[:len(b)])
			seal.Open(keyRoom[:k], room[:len(b)])
			seal.Open(bodyRoom[:n], room[:len(b)])
			seal.Base(keyRoom[:k])
			seal.Keys(keyRoom[:k], 1, [32]byte{})
			if !bytes.Equal(keyRoom, keyWas) || !bytes.Equal(bodyRoom, bodyWas) || !bytes.Equal(room, was) {
				t.Fatalf("key of %d bytes, body of %d: a key, a body, a datagram or their spare room is another now", k, n)
			}
		}
	}
}

func TestAnswersAreNewMemory(t *testing.T) {
	key, h := []byte("key"), api.Header{Kind: api.KData, Epoch: 1, Seq: 5}
	for _, n := range bodyLengths() {
		body := some(rolls(15), n)
		bodyWas := bytes.Clone(body)
		b, _ := seal.Seal(key, h, body)
		was := bytes.Clone(b)
		_, got, e := seal.Open(key, b)
		if e != api.OK {
			t.Fatalf("body of %d bytes: %d", n, e)
		}
		fill(got, 1)
		if !bytes.Equal(b, was) || !bytes.Equal(body, bodyWas) {
			t.Fatalf("body of %d bytes: what was answered by Open shares memory", n)
		}
		_, again, _ := seal.Open(key, b)
		fill(b, 2)
		if !bytes.Equal(again, bodyWas) || !bytes.Equal(body, bodyWas) {
			t.Fatalf("body of %d bytes: what was answered by Seal shares memory", n)
		}
		other, _ := seal.Seal(key, h, body)
		fill(body, 3)
		if !bytes.Equal(other, was) {
			t.Fatalf("body of %d bytes: the datagram is another once the body is", n)
		}
	}
}

// fill writes over all bytes, and over their spare room.
func fill(b []byte, by byte) {
	b = b[:cap(b)]
	for at := range b {
		b[at] = by
	}
}

// What stands in spare room isn't handed in, though it may be a datagram.
func TestSpareRoomPlaysNoPart(t *testing.T) {
	key, h := []byte("key"), api.Header{Kind: api.KData, Epoch: 1, Seq: 5}
	b, _ := seal.Seal(key, h, []byte("body"))
	roomy := append(bytes.Clone(b), strings.Repeat("x", 600)...)[:len(b)]
	opened(t, "with spare room", key, roomy, h, []byte("body"))
	roomyBody := append([]byte("body"), make([]byte, 600)...)[:4]
	if again, e := seal.Seal(append([]byte("key"), make([]byte, 100)...)[:3], h, roomyBody); e != api.OK || !bytes.Equal(again, b) {
		t.Errorf("%x, %d, not %x", again, e, b)
	}
	refused(t, "a datagram in the spare room", key, b[:0], api.ErrShort)
	refused(t, "a datagram in the spare room", key, b[:29], api.ErrShort)
}

func TestTheSameMemoryForAll(t *testing.T) {
	b := some(rolls(16), 100)
	h := api.Header{Kind: api.KData, Epoch: 1, Seq: 5}
	was := bytes.Clone(b)
	d := sealHolds(t, "a body as key", b, h, b)
	opened(t, "a body as key", b, d, h, b)
	openHolds(t, "a datagram as key", d, d)
	if !bytes.Equal(b, was) {
		t.Error("it is another now")
	}
}

// R4

func TestNilAndEmptyMeanTheSame(t *testing.T) {
	h := api.Header{Kind: api.KHello}
	want := laid(nil, h, 0, nil)
	for _, key := range [][]byte{nil, {}} {
		for _, body := range [][]byte{nil, {}} {
			if b, e := seal.Seal(key, h, body); e != api.OK || !bytes.Equal(b, want) {
				t.Errorf("%x, %d, not %x", b, e, want)
			}
		}
		opened(t, "no body", key, want, h, nil)
		refused(t, "no bytes", key, nil, api.ErrShort)
		refused(t, "no bytes", key, []byte{}, api.ErrShort)
	}
	if seal.Base(nil) != seal.Base([]byte{}) || seal.Keys(nil, 1, [32]byte{}) != seal.Keys([]byte{}, 1, [32]byte{}) {
		t.Error("no secret and an empty one")
	}
}
