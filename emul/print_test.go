package emul_test

import (
	"fmt"
	"testing"

	"spyglass/api"
)

// P12.1: letters of each Width in terminals of one, two, three and more columns, at the last column and ahead of it.
func TestPrintWraps(t *testing.T) {
	tryAll(t, 1, 2, "", []trial{
		{"a", "a/. 0,0"},
		{"ab", "a/b 0,1"},
		{"abc", "b/c 0,1"},
		{"中", "./. 0,0"},
		{"a中", "a/. 0,0"},
		{"a中b", "a/b 0,1"},
		{"a中^[b", "a/a 0,1"},
	})
	tryAll(t, 2, 2, "", []trial{
		{"a", "a./.. 1,0"},
		{"ab", "ab/.. 1,0"},
		{"中", "中~/.. 1,0"},
		{"a中", "a./中~ 1,1"},
		{"中b", "中~/b. 1,1"},
		{"中b字", "b./字~ 1,1"},
		{"中字x", "字~/x. 1,1"},
	})
	tryAll(t, 3, 2, "", []trial{
		{"ab", "ab./... 2,0"},
		{"abc", "abc/... 2,0"},
		{"abcd", "abc/d.. 1,1"},
		{"a中", "a中~/... 2,0"},
		{"a中b", "a中~/b.. 1,1"},
		{"中字", "中~./字~. 2,1"},
		{"ab中", "ab./中~. 2,1"},
		{"abc中", "abc/中~. 2,1"},
		{"^[3G中", ".../中~. 2,1"},
		{"abcdefg", "def/g.. 1,1"},
		{"^[2;3Hab", "..a/b.. 1,1"},
		{"^[2;3H中", ".../中~. 2,1"},
		{"^[2;2Ha中", ".a./中~. 2,1"},
	})
	try(t, 80, 1, "^[79Ga中", "中~.............................................................................. 2,0")
}

// P12.1: letters of no Width print nothing, aren't printed last, and leave a full row full.
func TestPrintNothing(t *testing.T) {
	for _, r := range []rune{0, 7, 27, 31, 127, 0x80, 0x9F, 0x300, 0x301, 0x36F, 0x200B, 0xFE0F, 0xD800, 0xDFFF, -1, 0x110000, 1<<31 - 1, -1 << 31} {
		for text, want := range map[string]string{"": "c../... 1,0", "a": "ac./... 2,0", "abc": "abc/c.. 1,1", "abc^[?7l": "abc/... 2,0"} {
			term := fed(t, 3, 2, text)
			before := term.Screen()
			term.Do(api.Act{Kind: 1, Rune: r})
			if now := term.Screen(); !same(before, now) {
				t.Errorf("%q: the letter %#x makes %s of %s", text, r, drawn(now), drawn(before))
			}
			term.Do(api.Act{Kind: 1, Rune: 'c'})
			shows(t, term, fmt.Sprintf("%s %#x c", text, r), want)
		}
		term := fed(t, 3, 1, "a")
		term.Do(api.Act{Kind: 1, Rune: r})
		term.Feed(bytesOf("^[b"))
		shows(t, term, fmt.Sprintf("a %#x, and again", r), "aa. 2,0")
	}
	for r, want := range map[rune]string{0x20: "... 1,0", 0x7E: "~.. 1,0", 0xA0: "\u00a0.. 1,0", 0x2FF: "\u02ff.. 1,0", 0x115F: "\u115f~. 2,0", 0x1160: "\u1160.. 1,0", 0x3FFFD: "\U0003FFFD~. 2,0", 0x10FFFF: "\U0010FFFF.. 1,0"} {
		term := newTerm(t, 3, 1)
		term.Do(api.Act{Kind: 1, Rune: r})
		shows(t, term, fmt.Sprintf("%#x", r), want)
	}
}

// P12.1: where it doesn't wrap, letters are written over the last column, and wide ones aren't written there.
func TestPrintNoWrap(t *testing.T) {
	tryAll(t, 1, 2, "^[?7l", []trial{
		{"ab", "b/. 0,0"},
		{"a中", "a/. 0,0"},
	})
	tryAll(t, 2, 2, "^[?7l", []trial{
		{"abc", "ac/.. 1,0"},
		{"a中", "a./.. 1,0"},
		{"ab中", "ab/.. 1,0"},
		{"中b", ".b/.. 1,0"},
		{"中字", "中~/.. 1,0"},
		{"ab中^[b", "ab/.. 1,0"},
		{"abx中^[b", "ax/.. 1,0"},
		{"b中^[G^[b", "b./.. 1,0"},
	})
	tryAll(t, 3, 2, "^[?7l", []trial{
		{"a中b", "a.b/... 2,0"},
		{"ab中", "ab./... 2,0"},
		{"abcdef", "abf/... 2,0"},
		{"ab中^[?7hc中", "abc/中~. 2,1"},
		{"abc^[?7hd", "abd/... 2,0"},
		{"ab中^[G^[b", "bb./... 1,0"},
		{"^[2;3Hab中", ".../..b 2,1"},
	})
	// What is full where it doesn't wrap is so for m and b behind, and a new terminal wraps again.
	try(t, 3, 2, "^[?7labc^[md", "abd/... 2,0")
	try(t, 3, 2, "^[?7labc^cabcd", "abc/d.. 1,1")
}

// P12.1: letters that are put in.
func TestPrintInserts(t *testing.T) {
	tryAll(t, 4, 2, "abcd^[G^[4h", []trial{
		{"x", "xabc/.... 1,0"},
		{"xy", "xyab/.... 2,0"},
		{"中", "中~ab/.... 2,0"},
		{"中字x", "中~字~/x... 1,1"},
		{"xyz中", "xyza/中~.. 2,1"},
		{"^[4Gx", "abcx/.... 3,0"},
		{"^[4Gxy", "abcx/y... 1,1"},
		{"^[3G中", "ab中~/.... 3,0"},
		{"^[4lx", "xbcd/.... 1,0"},
		{"\u0301", "abcd/.... 0,0"},
		{"^[4G^[?7l中", "abcd/.... 3,0"},
		{"^[4G^[?7lxy", "abcy/.... 3,0"},
	})
	tryAll(t, 6, 1, "a中字b^[4h", []trial{
		{"^[2Gx", "ax中~字~ 2,0"},
		{"^[3Gx", "a.x.字~ 3,0"},
		{"^[3G国", "a.国~.. 4,0"},
		{"^[4G国", "a中~国~. 5,0"},
		{"^[5Gx", "a中~.x. 5,0"},
		{"^[6Gx", "a中~字~x 5,0"},
		{"^[Gx", "xa中~字~ 1,0"},
		{"^[G国", "国~a中~. 2,0"},
	})
	try(t, 1, 2, "^[4habc", "b/c 0,1")
	try(t, 2, 1, "^[4ha中b", "b. 1,0")
}

// P12.1: wide letters of which a half is written over.
func TestPrintOverHalves(t *testing.T) {
	tryAll(t, 5, 1, "a中字", []trial{
		{"^[2Gx", "ax.字~ 2,0"},
		{"^[3Gx", "a.x字~ 3,0"},
		{"^[3G国", "a.国~. 4,0"},
		{"^[4Gxy", "a中~xy 4,0"},
		{"^[5Gx", "a中~.x 4,0"},
		{"^[2G国", "a国~字~ 3,0"},
		{"^[1G国", "国~.字~ 2,0"},
	})
	// The other half is a blank of its own pen, the letter is of the pen that there is now.
	term := fed(t, 5, 1, "^[41ma中字^[1;43m^[3Gx")
	shows(t, term, "halves", "a2x字~ 3,0")
	if c := term.Screen().Cells[2]; c.Pen != (api.Pen{Bg: 4, Attrs: 1}) {
		t.Errorf("the pen is %+v", c.Pen)
	}
}

// P12.1: where letters wrap, the line goes down as elsewhere: within the margins, below them, at the last row.
func TestPrintScrolls(t *testing.T) {
	tryAll(t, 2, 4, "a\r\nb\r\nc\r\nd^[2;3r^[41m", []trial{
		{"^[1;2Hxy", "ax/y./c./d. 1,1"},
		{"^[3;2Hxy", "a./cx/y2/d. 1,2"},
		{"^[4;2Hxy", "a./b./c./yx 1,3"},
		{"^[3;2H中", "a./c./中~/d. 1,2"},
		{"^[2;2H中", "a./b./中~/d. 1,2"},
	})
	try(t, 2, 1, "abc", "c. 1,0")
	try(t, 2, 1, "^[42mabc", "c3 1,0")
}

// P12.1: the rune printed last: none, again, many times, and no more often than there are cells.
func TestAgain(t *testing.T) {
	tryAll(t, 3, 2, "", []trial{
		{"^[b", ".../... 0,0"},
		{"^[9999b", ".../... 0,0"},
		{"a^[b", "aa./... 2,0"},
		{"a^[0b", "aa./... 2,0"},
		{"a^[1b", "aa./... 2,0"},
		{"a^[2b", "aaa/... 2,0"},
		{"a^[3b", "aaa/a.. 1,1"},
		{"a^[;3b", "aa./... 2,0"},
		{"a^[2;9b", "aaa/... 2,0"},
		{"a^[5b", "aaa/aaa 2,1"},
		{"a^[6b", "aaa/a.. 1,1"},
		{"a^[7b", "aaa/a.. 1,1"},
		{"a^[9999b", "aaa/a.. 1,1"},
		{"中^[b", "中~./中~. 2,1"},
		{"ab^[Gc^[b", "cc./... 2,0"},
		{"a\r\n^[b", "a../a.. 1,1"},
		{"a^[2J^[b", ".a./... 2,0"},
		{"a^c^[b", ".../... 0,0"},
		{"a^[!p^[b", "aa./... 2,0"},
		{"a^[?47h^[b", ".a./... 2,0"},
		{"a^[?b^[!b^[>b", "a../... 1,0"},
		{"ab^[4h^[G^[b", "bab/... 1,0"},
		{"ab^[?7l^[5b", "abb/... 2,0"},
		{"a ^[2b", "a../... 1,1"},
	})
	term := fed(t, 2, 1, "a^[7;42m^[b")
	if c := term.Screen().Cells[1]; c != (api.Cell{Rune: 'a', Pen: api.Pen{Bg: 3, Attrs: 32}}) {
		t.Errorf("what is printed again is %+v", c)
	}
	if e := term.Resize(3, 1); e != 0 {
		t.Error(e)
	}
	term.Feed(bytesOf("^[b"))
	shows(t, term, "again behind Resize", "aa. 2,0")
}

// afterFull answers whether a row is still full behind an act.
func afterFull(t *testing.T, a api.Act) bool {
	t.Helper()
	term := fed(t, 3, 2, "abc")
	term.Do(a)
	term.Do(api.Act{Kind: 1, Rune: 'd'})
	s := term.Screen()
	right(t, s, fmt.Sprintf("%+v", a))
	return s.Cells[3].Rune == 'd' && s.Cells[2].Rune == 'c' && s.Y == 1 && s.X == 1
}

// P12.1: what puts an end to a full row, and what doesn't: m and b without a mark, texts, letters of no Width and acts that do nothing.
func TestFull(t *testing.T) {
	// Each control byte, and each final byte that moves nothing and writes nothing, in itself.
	for final := range 256 {
		b := byte(final)
		for _, a := range []api.Act{
			{Kind: 2, Final: b},
			{Kind: 3, Mark: '#', Final: b},
			{Kind: 4, Mark: '?', Final: b},
			{Kind: 4, Mark: '>', Final: b},
			{Kind: 4, Mark: ' ', Final: b, Params: []int{1}},
		} {
			if a.Kind != 2 || final < 8 || final > 13 {
				if afterFull(t, a) {
					t.Errorf("the row is full behind %+v", a)
				}
			}
			a.Kind = []int{-1, 0, 6, 7}[final%4]
			if !afterFull(t, a) {
				t.Errorf("the row isn't full behind %+v", a)
			}
		}
	}
	for _, a := range []api.Act{
		{Kind: 4, Final: 'm'}, {Kind: 4, Final: 'm', Params: []int{1}}, {Kind: 4, Final: 'm', Params: []int{38}}, {Kind: 4, Final: 'm', Params: []int{0, 41, 48, 5}},
		{Kind: 5}, {Kind: 5, Text: []byte("0;a")}, {Kind: 5, Text: []byte("8;;x")}, {Kind: 5, Text: []byte("9;")},
		{Kind: 1}, {Kind: 1, Rune: 0x301}, {Kind: 1, Rune: 127},
		{Kind: 4, Final: 'A', Params: make([]int, 17)}, {Kind: 2, Final: 13, Params: []int{-1}}, {Kind: 3, Final: '7', Params: []int{10000}}, {Kind: 2, Text: make([]byte, 257)},
	} {
		if !afterFull(t, a) {
			t.Errorf("the row isn't full behind %+v", a)
		}
	}
}

// P12.1: likewise, of what is read: behind most of it the next letter is put into the row.
func TestFullBehindBytes(t *testing.T) {
	tryAll(t, 3, 2, "abc", []trial{
		{"d", "abc/d.. 1,1"},
		{"^[md", "abc/d.. 1,1"},
		{"^[b", "abc/c.. 1,1"},
		{"^[2bd", "abc/ccd 2,1"},
		{"^[m^[1m^[bd", "abc/cd. 2,1"},
		{"^]0;t\x07d", "abc/d.. 1,1 title t"},
		{"\x7fd", "abc/d.. 1,1"},
		{"\u0301d", "abc/d.. 1,1"},
		{"\x00d", "abd/... 2,0"},
		{"\x07d", "abd/... 2,0"},
		{"\x18d", "abd/... 2,0"},
		{"\bd", "adc/... 2,0"},
		{"\td", "abd/... 2,0"},
		{"\rd", "dbc/... 1,0"},
		{"\nd", "abc/..d 2,1"},
		{"^7d", "abd/... 2,0"},
		{"^zd", "abd/... 2,0"},
		{"^#8d", "abd/... 2,0"},
		{"^Hd", "abd/... 2,0"},
		{"^[zd", "abd/... 2,0"},
		{"^[hd", "abd/... 2,0"},
		{"^[4ld", "abd/... 2,0"},
		{"^[?md", "abd/... 2,0"},
		{"^[?bd", "abd/... 2,0"},
		{"^[!pd", "abd/... 2,0"},
		{"^[!zd", "abd/... 2,0"},
		{"^[?7hd", "abd/... 2,0"},
		{"^[?25hd", "abd/... 2,0"},
		{"^[2;1rd", "abd/... 2,0"},
		{"^[sd", "abd/... 2,0"},
		{"^[gd", "abd/... 2,0"},
		{"^[Cd", "abd/... 2,0"},
		{"^[Dd", "adc/... 2,0"},
		{"^[Ad", "abd/... 2,0"},
		{"^[Bd", "abc/..d 2,1"},
		{"^[Xd", "abd/... 2,0"},
		{"^[Kd", "abd/... 2,0"},
		{"^[3Kd", "abd/... 2,0"},
		{"^[@d", "abd/... 2,0"},
		{"^[Pd", "abd/... 2,0"},
		{"^[Sd", "..d/... 2,0"},
		{"^[3Gd", "abd/... 2,0"},
	})
	// A row that isn't full: at the last column, but not by a letter.
	tryAll(t, 3, 2, "", []trial{
		{"^[3Gd", "..d/... 2,0"},
		{"ab\td", "abd/... 2,0"},
		{"ab^[Cd", "abd/... 2,0"},
		{"abc^7^8d", "abd/... 2,0"},
		{"abcd", "abc/d.. 1,1"},
		{"abc^[Ddef", "ade/f.. 1,1"},
	})
}
