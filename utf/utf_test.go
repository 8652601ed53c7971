package utf_test

import (
	"bytes"
	"math"
	"slices"
	"strconv"
	"sync"
	"testing"

	"spyglass/utf"
)

// broken is what is told of bytes that are no rune's.
const broken = 0xFFFD

// The runes that may be lie from 0 on, but for a gap.
const (
	last     = 0x10FFFF
	firstGap = 0xD800
	lastGap  = 0xDFFF
)

// rolls answers numbers that look like none in particular, the same ones each time.
func rolls(seed uint64) func(below int) int {
	return func(below int) int {
		seed = seed*6364136223846793005 + 1442695040888963407
		return int((seed >> 33) % uint64(below))
	}
}

// mayBe tells whether a rune may be.
func mayBe(r rune) bool { return r >= 0 && r <= last && (r < firstGap || r > lastGap) }

// wantBytes lays a rune that may be, by the chapter's quotients.
func wantBytes(r rune) []byte {
	more := func(quotient rune) byte { return byte(0x80 + quotient%64) }
	switch {
	case r < 0x80:
		return []byte{byte(r)}
	case r < 0x800:
		return []byte{byte(0xC0 + r/64), more(r)}
	case r < 0x10000:
		return []byte{byte(0xE0 + r/4096), more(r / 64), more(r)}
	}
	return []byte{byte(0xF0 + r/262144), more(r / 4096), more(r / 64), more(r)}
}

// wholes answers the bytes of all runes that may be, and all beginnings of such that aren't all of them.
var wholes = sync.OnceValues(func() (map[string]rune, map[string]bool) {
	whole, begun := map[string]rune{}, map[string]bool{}
	for r := rune(0); r <= last; r++ {
		if !mayBe(r) {
			continue
		}
		b := wantBytes(r)
		whole[string(b)] = r
		for n := 1; n < len(b); n++ {
			begun[string(b[:n])] = true
		}
	}
	return whole, begun
})

// feeder knows what a decoder has to tell.
type feeder struct{ begun string }

func (f *feeder) feed(b byte) []rune {
	whole, begun := wholes()
	text := f.begun + string([]byte{b})
	if r, ok := whole[text]; ok {
		f.begun = ""
		return []rune{r}
	}
	if begun[text] {
		f.begun = text
		return nil
	}
	if f.begun == "" {
		return []rune{broken}
	}
	f.begun = ""
	return append([]rune{broken}, f.feed(b)...)
}

func (f *feeder) end() []rune {
	if f.begun == "" {
		return nil
	}
	f.begun = ""
	return []rune{broken}
}

// wantRunes is what a new decoder tells of all bytes, and at its end.
func wantRunes(b []byte) []rune {
	var f feeder
	var told []rune
	for _, c := range b {
		told = append(told, f.feed(c)...)
	}
	return append(told, f.end()...)
}

// lay answers the bytes of runes that may be, one behind the other.
func lay(runes []rune) []byte {
	var b []byte
	for _, r := range runes {
		b = append(b, wantBytes(r)...)
	}
	return b
}

// edges are runes that may be at which something begins or ends, and some between.
func edges() []rune {
	return []rune{
		0, 1, 31, 32, 'A', 'a', 0x7E, 0x7F, 0x80, 0x81, 0xA0, 0xBF, 0xC0, 0xFF, 0x100, 0x7BF, 0x7C0, 0x7FE, 0x7FF,
		0x800, 0x801, 0x83F, 0x840, 0xFFF, 0x1000, 0x20AC, 0x4E00, 0xCFFF, 0xD000, 0xD7BF, 0xD7C0, 0xD7FE, 0xD7FF,
		0xE000, 0xE001, 0xFEFF, 0xFFBF, 0xFFC0, 0xFFFC, 0xFFFD, 0xFFFE, 0xFFFF, 0x10000, 0x10001, 0x1003F, 0x10040,
		0x10FFF, 0x11000, 0x1F300, 0x3FFFF, 0x40000, 0xFFFFF, 0x100000, 0x10FFBF, 0x10FFC0, 0x10FFFE, 0x10FFFF,
	}
}

// none are numbers of no rune.
func none() []rune {
	return []rune{
		math.MinInt32, math.MinInt32 + 1, math.MinInt32 + 'A', -0x110000, -0x10000, -256, -128, -65, -2, -1, 0xD800, 0xD801, 0xDA00,
		0xDBFF, 0xDC00, 0xDFFE, 0xDFFF, 0x110000, 0x110001, 0x13FFFF, 0x140000, 0x1FFFFF, 0x200000, 0x1000041, math.MaxInt32 - 1, math.MaxInt32,
	}
}

// keyBytes are bytes at which something begins or ends.
func keyBytes() []byte {
	return []byte{
		0, 0x41, 0x7F, 0x80, 0x81, 0x8F, 0x90, 0x9F, 0xA0, 0xAC, 0xBF, 0xC0, 0xC1, 0xC2, 0xDF, 0xE0, 0xE1, 0xE2, 0xEC, 0xED, 0xEE, 0xEF,
		0xF0, 0xF1, 0xF3, 0xF4, 0xF5, 0xF7, 0xF8, 0xFB, 0xFC, 0xFE, 0xFF,
	}
}

// show tells bytes or runes by their numbers.
func show[T ~byte | ~rune](l []T) string {
	text := "["
	for _, n := range l {
		text += " " + strconv.FormatInt(int64(n), 16)
	}
	return text + " ]"
}

// holdFeed feeds bytes to a new decoder, and holds what each of them tells, and two ends behind them, against the model.
func holdFeed(t *testing.T, b []byte) {
	t.Helper()
	d := utf.New()
	var f feeder
	for at, c := range b {
		if got, want := d.Feed(c), f.feed(c); !slices.Equal(got, want) {
			t.Fatalf("of %s the byte %d tells %s, not %s", show(b), at, show(got), show(want))
		}
	}
	if got, want := d.End(), f.end(); !slices.Equal(got, want) {
		t.Fatalf("the end of %s tells %s, not %s", show(b), show(got), show(want))
	}
	if got := d.End(); len(got) != 0 {
		t.Fatalf("a second end of %s tells %s", show(b), show(got))
	}
}

// holdRunes holds Runes and Valid of bytes against the model, and against each other.
func holdRunes(t *testing.T, b []byte) {
	t.Helper()
	want := wantRunes(b)
	if got := utf.Runes(b); !slices.Equal(got, want) {
		t.Fatalf("the runes of %s are %s, not %s", show(b), show(got), show(want))
	}
	if got, want := utf.Valid(b), bytes.Equal(lay(want), b); got != want {
		t.Fatalf("%s being valid is %v, not %v", show(b), got, want)
	}
}

// hold holds all that bytes tell against the model.
func hold(t *testing.T, b []byte) {
	t.Helper()
	holdFeed(t, b)
	holdRunes(t, b)
}

// P7.1

// said is a row of bytes, with what each of them tells, and what the end does.
type said struct {
	b    []byte
	each [][]rune
	end  []rune
}

// rows are rows of bytes, with what is told of them as it was worked out by hand.
func rows() []said {
	no := []rune(nil)
	one := []rune{broken}
	two := []rune{broken, broken}
	withA := []rune{broken, 'A'}
	return []said{
		{[]byte{}, nil, no},
		{[]byte{65}, [][]rune{{'A'}}, no},
		{[]byte{0}, [][]rune{{0}}, no},
		{[]byte{0x7F}, [][]rune{{0x7F}}, no},
		// The chapter's examples.
		{[]byte{65, 0xE2, 0x82, 0xAC}, [][]rune{{'A'}, no, no, {0x20AC}}, no},
		{[]byte{0xE2, 0x82, 65}, [][]rune{no, no, withA}, no},
		{[]byte{0xC0, 0x80}, [][]rune{one, one}, no},
		{[]byte{0xED, 0xA0}, [][]rune{no, two}, no},
		// Whole runes of two, three and four bytes.
		{[]byte{0xC2, 0x80}, [][]rune{no, {0x80}}, no},
		{[]byte{0xDF, 0xBF}, [][]rune{no, {0x7FF}}, no},
		{[]byte{0xE0, 0xA0, 0x80}, [][]rune{no, no, {0x800}}, no},
		{[]byte{0xED, 0x9F, 0xBF}, [][]rune{no, no, {0xD7FF}}, no},
		{[]byte{0xEE, 0x80, 0x80}, [][]rune{no, no, {0xE000}}, no},
		{[]byte{0xEF, 0xBF, 0xBD}, [][]rune{no, no, {0xFFFD}}, no},
		{[]byte{0xEF, 0xBF, 0xBF}, [][]rune{no, no, {0xFFFF}}, no},
		{[]byte{0xF0, 0x90, 0x80, 0x80}, [][]rune{no, no, no, {0x10000}}, no},
		{[]byte{0xF4, 0x8F, 0xBF, 0xBF}, [][]rune{no, no, no, {0x10FFFF}}, no},
		// Bytes too many for a rune.
		{[]byte{0xC1, 0xBF}, [][]rune{one, one}, no},
		{[]byte{0xE0, 0x80, 0x80}, [][]rune{no, two, one}, no},
		{[]byte{0xE0, 0x9F, 0xBF}, [][]rune{no, two, one}, no},
		{[]byte{0xF0, 0x80, 0x80, 0x80}, [][]rune{no, two, one, one}, no},
		{[]byte{0xF0, 0x8F, 0xBF, 0xBF}, [][]rune{no, two, one, one}, no},
		// Those of numbers that are no rune.
		{[]byte{0xED, 0xA0, 0x80}, [][]rune{no, two, one}, no},
		{[]byte{0xED, 0xBF, 0xBF}, [][]rune{no, two, one}, no},
		{[]byte{0xF4, 0x90, 0x80, 0x80}, [][]rune{no, two, one, one}, no},
		{[]byte{0xF5, 0x80, 0x80, 0x80}, [][]rune{one, one, one, one}, no},
		{[]byte{0xF8, 0x88, 0x80, 0x80, 0x80}, [][]rune{one, one, one, one, one}, no},
		{[]byte{0xFF, 0xFE}, [][]rune{one, one}, no},
		// Bytes that go on, with nothing ahead of them.
		{[]byte{0x80}, [][]rune{one}, no},
		{[]byte{0xBF, 0xBF}, [][]rune{one, one}, no},
		{[]byte{0xC3, 0xA9, 0xA9}, [][]rune{no, {0xE9}, one}, no},
		// Beginnings that end.
		{[]byte{0xC2}, [][]rune{no}, one},
		{[]byte{0xE2}, [][]rune{no}, one},
		{[]byte{0xE2, 0x82}, [][]rune{no, no}, one},
		{[]byte{0xF0}, [][]rune{no}, one},
		{[]byte{0xF0, 0x9F}, [][]rune{no, no}, one},
		{[]byte{0xF0, 0x9F, 0x98}, [][]rune{no, no, no}, one},
		// Those that are cut off by a letter.
		{[]byte{0xC2, 65}, [][]rune{no, withA}, no},
		{[]byte{0xF0, 65}, [][]rune{no, withA}, no},
		{[]byte{0xF0, 0x9F, 65}, [][]rune{no, no, withA}, no},
		{[]byte{0xF0, 0x9F, 0x98, 65}, [][]rune{no, no, no, withA}, no},
		// Those that are cut off by another one.
		{[]byte{0xC2, 0xC2, 0x80}, [][]rune{no, one, {0x80}}, no},
		{[]byte{0xE2, 0x82, 0xE2, 0x82, 0xAC}, [][]rune{no, no, one, no, {0x20AC}}, no},
		{[]byte{0xF0, 0x9F, 0x98, 0xF0, 0x9F, 0x98, 0x80}, [][]rune{no, no, no, one, no, no, {0x1F600}}, no},
		{[]byte{0xF0, 0x9F, 0x98, 0xC3}, [][]rune{no, no, no, one}, one},
		// Those that are cut off by what fits nothing.
		{[]byte{0xC2, 0xFF}, [][]rune{no, two}, no},
		{[]byte{0xE2, 0x82, 0xC0}, [][]rune{no, no, two}, no},
		{[]byte{0xF0, 0x9F, 0x98, 0xF5}, [][]rune{no, no, no, two}, no},
	}
}

func TestFeedTellsByteByByte(t *testing.T) {
	for _, row := range rows() {
		d := utf.New()
		for at, c := range row.b {
			if got := d.Feed(c); !slices.Equal(got, row.each[at]) {
				t.Errorf("of %s the byte %d tells %s, not %s", show(row.b), at, show(got), show(row.each[at]))
			}
		}
		if got := d.End(); !slices.Equal(got, row.end) {
			t.Errorf("the end of %s tells %s, not %s", show(row.b), show(got), show(row.end))
		}
		if got := d.End(); len(got) != 0 {
			t.Errorf("a second end of %s tells %s", show(row.b), show(got))
		}
	}
}

func TestRunesTellAllAndTheEnd(t *testing.T) {
	for _, row := range rows() {
		want := append(slices.Concat(row.each...), row.end...)
		if got := utf.Runes(row.b); !slices.Equal(got, want) {
			t.Errorf("the runes of %s are %s, not %s", show(row.b), show(got), show(want))
		}
	}
}

// What was told plays no part in what comes behind it, nor does an end between.
func TestDecoderGoesOn(t *testing.T) {
	d := utf.New()
	var f feeder
	for _, row := range append(rows(), rows()...) {
		for at, c := range row.b {
			if got, want := d.Feed(c), f.feed(c); !slices.Equal(got, want) {
				t.Fatalf("of %s the byte %d tells %s, not %s", show(row.b), at, show(got), show(want))
			}
		}
	}
	for _, row := range rows() {
		d.End()
		var got []rune
		for _, c := range row.b {
			got = append(got, d.Feed(c)...)
		}
		if want := slices.Concat(row.each...); !slices.Equal(got, want) {
			t.Errorf("behind an end %s tells %s, not %s", show(row.b), show(got), show(want))
		}
	}
}

// Each row cut off by each other one.
func TestRowBehindRow(t *testing.T) {
	for _, a := range rows() {
		for _, b := range rows() {
			hold(t, slices.Concat(a.b, b.b))
		}
	}
}

func TestShortRowsOfAnyBytes(t *testing.T) {
	hold(t, nil)
	for a := range 256 {
		hold(t, []byte{byte(a)})
		for b := range 256 {
			hold(t, []byte{byte(a), byte(b)})
		}
	}
}

func TestLongerRowsOfKeyBytes(t *testing.T) {
	for _, a := range keyBytes() {
		for b := range 256 {
			for _, c := range keyBytes() {
				hold(t, []byte{a, byte(b), c})
			}
		}
		if a < 0xC0 {
			continue
		}
		for _, b := range keyBytes() {
			for _, c := range keyBytes() {
				for _, e := range keyBytes() {
					hold(t, []byte{a, b, c, e})
					hold(t, []byte{a, b, c, e, 65})
				}
			}
		}
	}
}

// Each beginning, cut off: those of one byte and of two by each byte, those of three by each at which something begins or ends.
func TestBeginningsCutOff(t *testing.T) {
	var all []byte
	for c := range 256 {
		all = append(all, byte(c))
	}
	_, begun := wholes()
	for text := range begun {
		cuts := all
		if len(text) == 3 {
			cuts = keyBytes()
		}
		for _, c := range cuts {
			holdRunes(t, append([]byte(text), c))
		}
		holdFeed(t, []byte(text))
		holdFeed(t, append([]byte(text), 65))
		holdFeed(t, append([]byte(text), 0xFF))
		holdFeed(t, append([]byte(text), text...))
	}
}

func TestAnyBytes(t *testing.T) {
	roll := rolls(7)
	key := keyBytes()
	for range 20000 {
		var b []byte
		for range roll(12) {
			switch roll(4) {
			case 0:
				b = append(b, byte(roll(256)))
			case 1:
				b = append(b, key[roll(len(key))])
			case 2:
				b = append(b, wantBytes(edges()[roll(len(edges()))])...)
			default:
				w := wantBytes(edges()[roll(len(edges()))])
				b = append(b, w[:roll(len(w)+1)]...)
			}
		}
		hold(t, b)
	}
}

func TestManyBytes(t *testing.T) {
	roll := rolls(70)
	b := make([]byte, 1<<18)
	for at := range b {
		b[at] = byte(roll(256))
	}
	hold(t, b)
	hold(t, bytes.Repeat([]byte{0xF0, 0x9F, 0x98}, 1<<14))
	hold(t, bytes.Repeat([]byte{0x80}, 1<<14))
}

// Of a text of runes Runes tells what a range over it does.
func TestRunesAreThoseOfARange(t *testing.T) {
	for _, text := range []string{"", "abc", "Grüße, 世界", "a\x00b", "é\u0301\U0001F600", "\uFFFD\uFFFDx"} {
		var want []rune
		for _, r := range text {
			want = append(want, r)
		}
		if got := utf.Runes([]byte(text)); !slices.Equal(got, want) {
			t.Errorf("the runes of %q are %s, not %s", text, show(got), show(want))
		}
	}
}

func TestEncodeKnown(t *testing.T) {
	known := map[rune][]byte{
		0: {0}, 'A': {65}, 0x7F: {0x7F}, 0x80: {0xC2, 0x80}, 0xE9: {0xC3, 0xA9}, 0x7FF: {0xDF, 0xBF}, 0x800: {0xE0, 0xA0, 0x80},
		0x20AC: {0xE2, 0x82, 0xAC}, 0x4E00: {0xE4, 0xB8, 0x80}, 0xD7FF: {0xED, 0x9F, 0xBF}, 0xE000: {0xEE, 0x80, 0x80},
		0xFFFD: {0xEF, 0xBF, 0xBD}, 0xFFFF: {0xEF, 0xBF, 0xBF}, 0x10000: {0xF0, 0x90, 0x80, 0x80},
		0x1F600: {0xF0, 0x9F, 0x98, 0x80}, 0x10FFFF: {0xF4, 0x8F, 0xBF, 0xBF},
	}
	for r, want := range known {
		if got := utf.Encode(r); !bytes.Equal(got, want) {
			t.Errorf("the bytes of %x are %s, not %s", r, show(got), show(want))
		}
	}
}

func TestEncodeNone(t *testing.T) {
	want := []byte{0xEF, 0xBF, 0xBD}
	for _, r := range none() {
		if got := utf.Encode(r); !bytes.Equal(got, want) {
			t.Errorf("the bytes of %d are %s, not %s", r, show(got), show(want))
		}
	}
	for r := rune(firstGap); r <= lastGap; r++ {
		if got := utf.Encode(r); !bytes.Equal(got, want) {
			t.Errorf("the bytes of %x are %s, not %s", r, show(got), show(want))
		}
	}
}

// ranges are the first and last runes of those that don't take one column.
func ranges(columns int) [][2]rune {
	if columns == 0 {
		return [][2]rune{{0, 31}, {127, 159}, {0x300, 0x36F}, {0x200B, 0x200F}, {0xFE00, 0xFE0F}, {0xD800, 0xDFFF}}
	}
	return [][2]rune{
		{0x1100, 0x115F}, {0x2E80, 0x303E}, {0x3041, 0xA4CF}, {0xAC00, 0xD7A3}, {0xF900, 0xFAFF}, {0xFE30, 0xFE6F}, {0xFF00, 0xFF60},
		{0xFFE0, 0xFFE6}, {0x1F300, 0x1F64F}, {0x20000, 0x3FFFD},
	}
}

// wantWidth is how many columns a rune takes.
func wantWidth(r rune) int {
	if r < 0 || r > 0x10FFFF {
		return 0
	}
	for _, columns := range []int{0, 2} {
		for _, l := range ranges(columns) {
			if r >= l[0] && r <= l[1] {
				return columns
			}
		}
	}
	return 1
}

func TestWidthAtBothEnds(t *testing.T) {
	for _, columns := range []int{0, 2} {
		for _, l := range ranges(columns) {
			for _, r := range []rune{l[0], l[0] + 1, (l[0] + l[1]) / 2, l[1] - 1, l[1]} {
				if got := utf.Width(r); got != columns {
					t.Errorf("%x takes %d columns, not %d", r, got, columns)
				}
			}
			for _, r := range []rune{l[0] - 1, l[1] + 1} {
				// Ahead of 0 there is no rune.
				want := 1
				if r < 0 {
					want = 0
				}
				if got := utf.Width(r); got != want {
					t.Errorf("%x, beside the range from %x to %x, takes %d columns, not %d", r, l[0], l[1], got, want)
				}
			}
		}
	}
}

func TestWidthKnown(t *testing.T) {
	known := map[rune]int{
		0x4E00: 2, 0x301: 0, 'A': 1, ' ': 1, '~': 1, 0xA0: 1, 0xE9: 1, 0x20AC: 1, 0x303F: 1, 0x3040: 1, 0xFFFD: 1, 0xFFFF: 1,
		0x10000: 1, 0x1F600: 2, 0x3FFFE: 1, 0x3FFFF: 1, 0x40000: 1, 0x10FFFF: 1, 0xE000: 1, 0xD7FF: 1, 7: 0, 27: 0,
	}
	for r, want := range known {
		if got := utf.Width(r); got != want {
			t.Errorf("%x takes %d columns, not %d", r, got, want)
		}
	}
	for _, r := range none() {
		if got := utf.Width(r); got != 0 {
			t.Errorf("%d, which is no rune, takes %d columns", r, got)
		}
	}
}

func TestWidthOfAll(t *testing.T) {
	for r := rune(-300); r <= last+0x10000; r++ {
		if got, want := utf.Width(r), wantWidth(r); got != want {
			t.Fatalf("%x takes %d columns, not %d", r, got, want)
		}
	}
}

// P7.2

func TestThereAndBackOfAll(t *testing.T) {
	d := utf.New()
	for r := rune(0); r <= last; r++ {
		if !mayBe(r) {
			continue
		}
		b := utf.Encode(r)
		if want := wantBytes(r); !bytes.Equal(b, want) {
			t.Fatalf("the bytes of %x are %s, not %s", r, show(b), show(want))
		}
		if got := utf.Runes(b); len(got) != 1 || got[0] != r || !utf.Valid(b) {
			t.Fatalf("the bytes of %x tell %s", r, show(got))
		}
		for at, c := range b {
			got := d.Feed(c)
			if at < len(b)-1 && len(got) != 0 || at == len(b)-1 && (len(got) != 1 || got[0] != r) {
				t.Fatalf("the byte %d of %x tells %s", at, r, show(got))
			}
		}
	}
	if got := d.End(); len(got) != 0 {
		t.Errorf("the end of whole runes tells %s", show(got))
	}
}

func TestThereAndBackOfRows(t *testing.T) {
	roll := rolls(72)
	for range 3000 {
		runes := make([]rune, roll(20))
		for at := range runes {
			runes[at] = edges()[roll(len(edges()))]
			if r := rune(roll(last + 1)); roll(2) == 0 && mayBe(r) {
				runes[at] = r
			}
		}
		var b []byte
		for _, r := range runes {
			b = append(b, utf.Encode(r)...)
		}
		if got := utf.Runes(b); !slices.Equal(got, runes) || !utf.Valid(b) {
			t.Fatalf("%s came back as %s, being valid: %v", show(runes), show(got), utf.Valid(b))
		}
		hold(t, b)
	}
}

// P7.3

func TestValidIsWhatComesBack(t *testing.T) {
	check := func(b []byte) {
		var back []byte
		for _, r := range utf.Runes(b) {
			back = append(back, utf.Encode(r)...)
		}
		if got, want := utf.Valid(b), bytes.Equal(back, b); got != want {
			t.Fatalf("%s comes back as %s, and being valid is %v", show(b), show(back), got)
		}
	}
	check(nil)
	for a := range 256 {
		for b := range 256 {
			check([]byte{byte(a), byte(b)})
			check([]byte{'a', byte(a), byte(b), 0x80})
			check([]byte{byte(a), byte(b), 0xBF, 0xBF, 'z'})
		}
	}
	for _, r := range edges() {
		b := wantBytes(r)
		for at := range b {
			check(b[:at])
			check(b[at:])
			for bit := range 8 {
				turned := slices.Clone(b)
				turned[at] ^= 1 << bit
				check(turned)
			}
		}
	}
}

func TestValidKnown(t *testing.T) {
	for _, b := range [][]byte{nil, {}, {0}, {0x7F}, {0xC2, 0x80}, {0xEF, 0xBF, 0xBD}, {0xF4, 0x8F, 0xBF, 0xBF}, []byte("Grüße, 世界")} {
		if !utf.Valid(b) {
			t.Errorf("%s isn't valid", show(b))
		}
	}
	for _, row := range rows() {
		want := !slices.Contains(append(slices.Concat(row.each...), row.end...), broken) || bytes.Equal(row.b, []byte{0xEF, 0xBF, 0xBD})
		if got := utf.Valid(row.b); got != want {
			t.Errorf("%s being valid is %v, not %v", show(row.b), got, want)
		}
		if got := utf.Valid(append([]byte("ab"), append(row.b, 'c')...)); got != want {
			t.Errorf("%s between letters being valid is %v, not %v", show(row.b), got, want)
		}
	}
}

// R1

func TestNilDecoderTellsNothing(t *testing.T) {
	var d *utf.Decoder
	for c := range 256 {
		if got := d.Feed(byte(c)); len(got) != 0 {
			t.Errorf("a nil decoder tells %s of %x", show(got), c)
		}
		if got := d.End(); len(got) != 0 {
			t.Errorf("the end of a nil decoder tells %s", show(got))
		}
	}
}

// R2

func TestDecodersAreApart(t *testing.T) {
	a, b := utf.New(), utf.New()
	for at, c := range wantBytes(0x1F600) {
		a.Feed(c)
		if at < 3 {
			if got := b.Feed('A'); !slices.Equal(got, []rune{'A'}) {
				t.Errorf("beside another decoder A tells %s", show(got))
			}
		}
	}
	a.Feed(0xE2)
	b.Feed(0xF0)
	a.Feed(0x82)
	b.Feed(0x9F)
	if got := a.Feed(0xAC); !slices.Equal(got, []rune{0x20AC}) {
		t.Errorf("beside another decoder the bytes of 20AC tell %s", show(got))
	}
	if got := b.End(); !slices.Equal(got, []rune{broken}) {
		t.Errorf("beside another decoder a beginning's end tells %s", show(got))
	}
}

func TestManyAtOnce(t *testing.T) {
	var all sync.WaitGroup
	wholes()
	for seed := range 8 {
		all.Go(func() {
			roll := rolls(uint64(seed))
			for range 200 {
				b := make([]byte, roll(30))
				for at := range b {
					b[at] = keyBytes()[roll(len(keyBytes()))]
				}
				var told []rune
				d := utf.New()
				for _, c := range b {
					told = append(told, d.Feed(c)...)
				}
				told = append(told, d.End()...)
				if want := wantRunes(b); !slices.Equal(told, want) || !slices.Equal(utf.Runes(b), want) {
					t.Errorf("%s tells %s, not %s", show(b), show(told), show(want))
				}
			}
		})
	}
	all.Wait()
}

// R3

func TestWhatIsHandedInStays(t *testing.T) {
	for _, row := range rows() {
		room := append(slices.Clone(row.b), 1, 2, 3, 4, 5, 6, 7, 8)
		was := slices.Clone(room)
		b := room[:len(row.b)]
		utf.Runes(b)
		utf.Valid(b)
		if !bytes.Equal(room, was) {
			t.Errorf("%s with room behind it became %s", show(was), show(room))
		}
	}
}

// Neither what was answered nor what was handed in plays a part in what is told later.
func TestAnswersAreNew(t *testing.T) {
	spoil := func(l []rune) {
		l = l[:cap(l)]
		for at := range l {
			l[at] = -7
		}
	}
	for _, row := range rows() {
		d := utf.New()
		var f feeder
		var kept [][]rune
		var want [][]rune
		for _, c := range row.b {
			kept = append(kept, d.Feed(c))
			want = append(want, f.feed(c))
		}
		kept, want = append(kept, d.End()), append(want, f.end())
		for at := range kept {
			if !slices.Equal(kept[at], want[at]) {
				t.Errorf("of %s the answer %d became %s", show(row.b), at, show(kept[at]))
			}
			spoil(kept[at])
		}
		d = utf.New()
		for at, c := range row.b {
			got := d.Feed(c)
			if !slices.Equal(got, want[at]) {
				t.Errorf("of %s the byte %d tells %s, not %s", show(row.b), at, show(got), show(want[at]))
			}
			spoil(got)
		}
		first := utf.Runes(row.b)
		spoil(first)
		if got := utf.Runes(row.b); !slices.Equal(got, wantRunes(row.b)) {
			t.Errorf("the runes of %s became %s", show(row.b), show(got))
		}
	}
	for _, r := range append(edges(), none()...) {
		a, b := utf.Encode(r), utf.Encode(r)
		was := slices.Clone(b)
		clear(a[:cap(a)])
		if !bytes.Equal(b, was) || !bytes.Equal(utf.Encode(r), was) {
			t.Errorf("the bytes of %x hang on an earlier answer", r)
		}
	}
}
