package parse_test

import (
	"fmt"
	"regexp"
	"slices"
	"strconv"
	"strings"
	"sync"
	"testing"
	"unicode/utf8"

	"spyglass/api"
	"spyglass/parse"
	"spyglass/utf"
)

const (
	// A sequence tells at most so many numbers, each of them at most so great, and a text at most so many bytes.
	mostNumbers = 16
	mostNumber  = 9999
	mostText    = 256
)

// told spells acts: letters in quotation marks, control bytes behind a caret, sequences behind E and C with their numbers in brackets, texts behind O; behind a question mark whatever an act has that its kind doesn't name.
func told(acts []api.Act) string {
	var l []string
	for _, a := range acts {
		l = append(l, toldOf(a))
	}
	return strings.Join(l, " ")
}

// toldOf spells one act.
func toldOf(a api.Act) string {
	s := ""
	switch a.Kind {
	case 1:
		s, a.Rune = strconv.QuoteRune(a.Rune), 0
	case 2:
		s, a.Final = fmt.Sprintf("^%d", a.Final), 0
	case 3:
		s = "E" + toldMark(a.Mark) + string(rune(a.Final))
		a.Mark, a.Final = 0, 0
	case 4:
		s = "C" + toldMark(a.Mark) + strings.ReplaceAll(fmt.Sprint(a.Params), " ", ",") + string(rune(a.Final))
		a.Mark, a.Params, a.Final = 0, nil, 0
	case 5:
		s, a.Text = fmt.Sprintf("O%q", a.Text), nil
	}
	if a.Rune != 0 || a.Mark != 0 || a.Final != 0 || len(a.Params) > 0 || len(a.Text) > 0 || s == "" {
		s += fmt.Sprintf("?%+v", a)
	}
	return s
}

// toldMark spells a mark, if there is one.
func toldMark(m byte) string {
	if m == 0 {
		return ""
	}
	return string(rune(m))
}

// rolls answers numbers that look like none in particular, the same ones each time.
func rolls(seed uint64) func(below int) int {
	return func(below int) int {
		seed = seed*6364136223846793005 + 1442695040888963407
		return int(seed >> 33 % uint64(below))
	}
}

// rows are all rows of up to most of some things.
func rows[T any](things []T, most int) [][]T {
	all := [][]T{nil}
	for from := 0; most > 0; most-- {
		end := len(all)
		for _, l := range all[from:end] {
			for _, thing := range things {
				all = append(all, append(slices.Clone(l), thing))
			}
		}
		from = end
	}
	return all
}

// model reads bytes by keeping all of a sequence, and by asking after each byte which form the whole of it has.
type model struct {
	letters *utf.Decoder
	// sequence is what came from 27 on, without what is passed over; nothing in the ground.
	sequence string
}

var (
	wholeEsc    = regexp.MustCompile(`^\x1b([ -/]?)([0-~])$`)
	lostEsc     = regexp.MustCompile(`^\x1b[ -/][ -/]+[0-~]$`)
	wholeCsi    = regexp.MustCompile(`^\x1b\[(?:([<-?]?)([0-9;:]*)|([0-9;:]*)([ -/]))([@-~])$`)
	lostCsi     = regexp.MustCompile(`^\x1b\[[ -?]*[@-~]$`)
	openedAny   = regexp.MustCompile(`^\x1b[\[\]PX^_]$`)
	openedText  = regexp.MustCompile(`(?s)^\x1b\](.*)$`)
	passedOver  = regexp.MustCompile(`^\x1b[PX^_]`)
	betweenNums = regexp.MustCompile(`[;:]`)
)

// newModel is one that has read nothing.
func newModel() *model { return &model{letters: utf.New()} }

// feed is what Feed has to answer.
func (m *model) feed(b byte) []api.Act {
	open := m.sequence != ""
	isText, isPassed := openedText.MatchString(m.sequence), passedOver.MatchString(m.sequence)
	switch {
	case (b == 24 || b == 26) && open:
		m.sequence = ""
		return nil
	case b == 27:
		acts := append(printed(m.letters.End()), m.text()...)
		m.sequence = "\x1b"
		return acts
	case !open || b >= 128 && !isText && !isPassed:
		m.sequence = ""
		return m.ground(b)
	case b == 7 && isText:
		acts := m.text()
		m.sequence = ""
		return acts
	case isPassed || b < 32 && isText:
		return nil
	case b < 32:
		return []api.Act{{Kind: 2, Final: b}}
	case b == 127 && !isText:
		return nil
	}
	m.sequence += string([]byte{b})
	return m.whole()
}

// ground is what a byte but 27 brings in the ground.
func (m *model) ground(b byte) []api.Act {
	if b == 127 {
		return printed(m.letters.End())
	}
	if b < 32 {
		return append(printed(m.letters.End()), api.Act{Kind: 2, Final: b})
	}
	return printed(m.letters.Feed(b))
}

// text is the act of a text that ends here, if one does.
func (m *model) text() []api.Act {
	l := openedText.FindStringSubmatch(m.sequence)
	if l == nil || len(l[1]) > mostText {
		return nil
	}
	return []api.Act{{Kind: 5, Text: []byte(l[1])}}
}

// whole is the act of a sequence, if it is whole now.
func (m *model) whole() []api.Act {
	s := m.sequence
	if openedAny.MatchString(s) || openedText.MatchString(s) {
		return nil
	}
	if l := wholeEsc.FindStringSubmatch(s); l != nil {
		m.sequence = ""
		return []api.Act{{Kind: 3, Mark: markOf(l[1]), Final: l[2][0]}}
	}
	if l := wholeCsi.FindStringSubmatch(s); l != nil {
		m.sequence = ""
		return []api.Act{{Kind: 4, Mark: markOf(l[1] + l[4]), Params: numbersOf(l[2] + l[3]), Final: l[5][0]}}
	}
	if lostEsc.MatchString(s) || lostCsi.MatchString(s) {
		m.sequence = ""
	}
	return nil
}

// markOf is the mark that a text is; 0, if it is none.
func markOf(text string) byte {
	if text == "" {
		return 0
	}
	return text[0]
}

// numbersOf are the numbers that a text tells.
func numbersOf(text string) []int {
	var l []int
	if text == "" {
		return nil
	}
	for _, digits := range betweenNums.Split(text, -1) {
		n, err := strconv.Atoi("0" + digits)
		if err != nil || n > mostNumber {
			n = mostNumber
		}
		l = append(l, n)
	}
	return l[:min(len(l), mostNumbers)]
}

// printed are the acts that print runes.
func printed(runes []rune) []api.Act {
	var l []api.Act
	for _, r := range runes {
		l = append(l, api.Act{Kind: 1, Rune: r})
	}
	return l
}

// tryActs has Acts answer as is wanted.
func tryActs(t *testing.T, b, want string) {
	t.Helper()
	if got := told(parse.Acts([]byte(b))); got != want {
		t.Errorf("Acts(%q) = %s, want %s", b, got, want)
	}
}

// tryModel has Feed, byte by byte, and Acts answer as the model does.
func tryModel(t *testing.T, b []byte) {
	t.Helper()
	p, m := parse.New(), newModel()
	var all []api.Act
	for i, each := range b {
		acts, want := p.Feed(each), m.feed(each)
		all = append(all, want...)
		if (len(acts) > 0 || len(want) > 0) && told(acts) != told(want) {
			t.Fatalf("Feed of %q, behind %q, = %s, want %s", each, b[:i], told(acts), told(want))
		}
	}
	if got, want := told(parse.Acts(b)), told(all); got != want {
		t.Fatalf("Acts(%q) = %s, want %s", b, got, want)
	}
}

// P11.1: the examples of the chapter.
func TestExamples(t *testing.T) {
	tryActs(t, "\x1b[?25h", "C?[25]h")
	tryActs(t, "\x1b[;5H", "C[0,5]H")
	tryActs(t, "\x1b]0;a\a", `O"0;a"`)
	tryActs(t, "\x1b[1\x18A", "'A'")
	tryActs(t, "\x1b[1\rm", "^13 C[1]m")
}

// Bytes that bring a parser to each of its states, by the states' names.
func states() map[string]string {
	l := map[string]string{
		"ground":      "",
		"begun":       "\xe2\x82",
		"escape":      "\x1b",
		"marked":      "\x1b#",
		"lost":        "\x1b# ",
		"control":     "\x1b[",
		"numbers":     "\x1b[1;25",
		"lostControl": "\x1b[1<",
		"text":        "\x1b]ab",
		"passed":      "\x1bPab",
	}
	for b := range 16 {
		l["between"+strconv.Itoa(b)] = "\x1b[3" + string(rune(32+b))
	}
	for b := range 4 {
		l["ahead"+strconv.Itoa(b)] = "\x1b[" + string(rune('<'+b))
	}
	return l
}

// change is what the bytes from first to last do in a state: the acts they bring, in which %c is the byte as a letter, %d its number, and %x the rune that it ends; and bytes behind which a new parser reads on the same way, in which %c is the byte.
type change struct {
	first, last int
	acts, next  string
}

const (
	asGround = "ground"
	stays    = "stays"
)

// groundChanges are those in the ground, with what is printed ahead of what a byte brings.
func groundChanges(ahead string) []change {
	behind := func(s string) string { return strings.TrimSpace(ahead + " " + s) }
	return []change{
		{0, 26, behind("^%d"), ""},
		{27, 27, ahead, "\x1b"},
		{28, 31, behind("^%d"), ""},
		{32, 126, behind("'%c'"), ""},
		{127, 127, ahead, ""},
		{128, 191, behind("'\uFFFD'"), ""},
		{192, 193, behind("'\uFFFD'"), ""},
		{194, 244, ahead, "%c"},
		{245, 255, behind("'\uFFFD'"), ""},
	}
}

// sequenceChanges are those in a sequence of the bytes that do the same in all of them, and others.
func sequenceChanges(others ...change) []change {
	return append([]change{
		{0, 23, "^%d", stays},
		{24, 24, "", ""},
		{25, 25, "^%d", stays},
		{26, 26, "", ""},
		{27, 27, "", "\x1b"},
		{28, 31, "^%d", stays},
		{127, 127, "", stays},
		{128, 193, "'\uFFFD'", ""},
		{194, 244, "", "%c"},
		{245, 255, "'\uFFFD'", ""},
	}, others...)
}

// changes are all of a state.
func changes(state string) []change {
	switch state {
	case "ground":
		return groundChanges("")
	case "begun":
		l := groundChanges("'\uFFFD'")
		l[5].acts = "%x"
		return l
	case "escape":
		return sequenceChanges(
			change{32, 47, "", "\x1b%c"},
			change{48, 79, "E%c", ""},
			change{80, 80, "", "\x1bP"},
			change{81, 87, "E%c", ""},
			change{88, 88, "", "\x1bX"},
			change{89, 90, "E%c", ""},
			change{91, 91, "", "\x1b["},
			change{92, 92, "E%c", ""},
			change{93, 93, "", "\x1b]"},
			change{94, 95, "", "\x1bP"},
			change{96, 126, "E%c", ""})
	case "marked":
		return sequenceChanges(change{32, 47, "", "\x1b##"}, change{48, 126, "E#%c", ""})
	case "lost":
		return sequenceChanges(change{32, 47, "", stays}, change{48, 126, "", ""})
	case "control":
		return sequenceChanges(
			change{32, 47, "", "\x1b[%c"},
			change{48, 57, "", "\x1b[%c"},
			change{58, 59, "", "\x1b[0;0"},
			change{60, 63, "", "\x1b[%c"},
			change{64, 126, "C[]%c", ""})
	case "numbers":
		return sequenceChanges(
			change{32, 47, "", "\x1b[1;25%c"},
			change{48, 57, "", "\x1b[1;25%c"},
			change{58, 59, "", "\x1b[1;25;"},
			change{60, 63, "", "\x1b[<<"},
			change{64, 126, "C[1,25]%c", ""})
	case "lostControl":
		return sequenceChanges(change{32, 63, "", stays}, change{64, 126, "", ""})
	case "text":
		return []change{
			{0, 6, "", stays}, {7, 7, `O"ab"`, ""}, {8, 23, "", stays}, {24, 24, "", ""}, {25, 25, "", stays},
			{26, 26, "", ""}, {27, 27, `O"ab"`, "\x1b"}, {28, 31, "", stays}, {32, 255, "", "\x1b]ab%c"}}
	case "passed":
		return []change{
			{0, 23, "", stays}, {24, 24, "", ""}, {25, 25, "", stays}, {26, 26, "", ""}, {27, 27, "", "\x1b"},
			{28, 255, "", stays}}
	}
	n, _ := strconv.Atoi(strings.TrimLeft(state, "abdehntw"))
	if strings.HasPrefix(state, "ahead") {
		mark := string(rune('<' + n))
		return sequenceChanges(
			change{32, 47, "", "\x1b[<<"},
			change{48, 57, "", "\x1b[" + mark + "%c"},
			change{58, 59, "", "\x1b[" + mark + "0;0"},
			change{60, 63, "", "\x1b[<<"},
			change{64, 126, "C" + mark + "[]%c", ""})
	}
	return sequenceChanges(change{32, 63, "", "\x1b[<<"}, change{64, 126, "C" + string(rune(32+n)) + "[3]%c", ""})
}

// filled puts a byte into a text of a change.
func filled(text string, b byte) string {
	text = strings.ReplaceAll(text, "'%c'", strconv.QuoteRune(rune(b)))
	text = strings.ReplaceAll(text, "%x", strconv.QuoteRune(0x2080+rune(b)-128))
	text = strings.ReplaceAll(text, "%d", strconv.Itoa(int(b)))
	return strings.ReplaceAll(text, "%c", string([]byte{b}))
}

// behind spells what further bytes bring behind others.
func behind(ahead, further string) string {
	b := []byte(ahead + further)
	return told(parse.Acts(b)[len(parse.Acts(b[:len(ahead)])):])
}

// probes tell states from one another.
func probes() []string {
	return []string{
		"A", "m", "5m", "7;8m", ";m", ":m", "?m", "?5h", " q", " m", "# m", "##m", "<<m", "[5m", "]c\a", "Pq\aA", "0", "#8",
		"\aA", "\rm", "\x18A", "\x1a\xac", "\x1bA", "\x1b[3m", "\x7f5m", "\x80A", "\xacA", "\x82\xac", "\xe2\x82\xacA", "\xc3\xa4", "\x90\x80\x80",
	}
}

// P11.1: each byte in each state: the acts it brings, and how the next bytes are read.
func TestEachByteInEachState(t *testing.T) {
	t.Parallel()
	for state, ahead := range states() {
		seen := 0
		for _, c := range changes(state) {
			for n := c.first; n <= c.last; n++ {
				b := byte(n)
				seen++
				want := filled(c.acts, b)
				if got := behind(ahead, string([]byte{b})); got != want {
					t.Errorf("in the state %s %d brings %s, want %s", state, b, got, want)
				}
				next := filled(c.next, b)
				if c.next == stays {
					next = ahead
				}
				for _, probe := range probes() {
					if got, want := behind(ahead+string([]byte{b}), probe), behind(next, probe); got != want {
						t.Errorf("in the state %s, behind %d, %q brings %s, want %s", state, b, probe, got, want)
					}
				}
			}
		}
		if seen != 256 {
			t.Errorf("the state %s has changes of %d bytes", state, seen)
		}
	}
}

// P11.1: each byte in each state, and any two behind, against the model.
func TestEachByteAgainstModel(t *testing.T) {
	t.Parallel()
	for _, ahead := range states() {
		for b := range 256 {
			row := append([]byte(ahead), byte(b))
			tryModel(t, row)
			for _, probe := range probes() {
				tryModel(t, append(slices.Clone(row), probe...))
			}
		}
	}
}

// P11.1: all short rows of bytes, one of each sort, in the ground and behind what opens a sequence.
func TestShortRows(t *testing.T) {
	t.Parallel()
	most := 4
	if testing.Short() {
		most = 3
	}
	for _, ahead := range []string{"", "\x1b", "\x1b[", "\x1b]"} {
		for _, row := range rows([]byte("\x07\r\x18\x1b #09:;?Am[]P\x7f\x82\xe2\xac"), most-len(ahead)/2) {
			tryModel(t, append([]byte(ahead), row...))
		}
	}
}

// anyBytes are bytes, most of which are such as have a meaning.
func anyBytes(roll func(int) int, n int) []byte {
	const meant = "\x00\a\r\x18\x19\x1a\x1b\x1b\x1b\x1b[[[[]]]PX^_ #/0123456789;;:<=>?@AHm~\x7f\x80\x82\xac\xc3\xe2\xf0\xff"
	var b []byte
	for len(b) < n {
		if roll(8) == 0 {
			b = append(b, byte(roll(256)))
			continue
		}
		b = append(b, meant[roll(len(meant))])
	}
	return b
}

// P11.1: any rows of bytes.
func TestAnyRows(t *testing.T) {
	t.Parallel()
	roll := rolls(11)
	for range 4000 {
		tryModel(t, anyBytes(roll, roll(60)))
	}
	for range 20 {
		tryModel(t, anyBytes(roll, 4000))
	}
}

// P11.1: 24, 26 and 27 in every state, and how letters are read on.
func TestEndsOfAll(t *testing.T) {
	for state, ahead := range states() {
		for _, b := range []string{"\x18", "\x1a"} {
			want := "'A'"
			switch state {
			case "ground":
				want = fmt.Sprintf("^%d 'A'", b[0])
			case "begun":
				want = fmt.Sprintf("'\uFFFD' ^%d 'A'", b[0])
			}
			if got := behind(ahead, b+"A"); got != want {
				t.Errorf("in the state %s %q and A bring %s, want %s", state, b, got, want)
			}
		}
		want := "E7 'A'"
		switch state {
		case "begun":
			want = "'\uFFFD' E7 'A'"
		case "text":
			want = `O"ab" E7 'A'`
		}
		if got := behind(ahead, "\x1b7A"); got != want {
			t.Errorf("in the state %s 27, 7 and A bring %s, want %s", state, got, want)
		}
	}
}

// P11.1: letters in the ground, and beginnings of letters that something ends.
func TestLetters(t *testing.T) {
	tryActs(t, "", "")
	tryActs(t, "aé€😀~ ", "'a' 'é' '€' '😀' '~' ' '")
	tryActs(t, "\xc2\x80\xc2\x9f", `'\u0080' '\u009f'`)
	tryActs(t, "\xc0\x80", "'\uFFFD' '\uFFFD'")
	tryActs(t, "\xed\xa0\x80", "'\uFFFD' '\uFFFD' '\uFFFD'")
	for _, begun := range []string{"\xc3", "\xe2", "\xe2\x82", "\xf0", "\xf0\x9f", "\xf0\x9f\x98"} {
		tryActs(t, begun, "")
		tryActs(t, begun+"\r\xac", "'\uFFFD' ^13 '\uFFFD'")
		tryActs(t, begun+"\x00", "'\uFFFD' ^0")
		tryActs(t, begun+"\x18", "'\uFFFD' ^24")
		tryActs(t, begun+"\x1a", "'\uFFFD' ^26")
		tryActs(t, begun+"\x1f", "'\uFFFD' ^31")
		tryActs(t, begun+"\x7f", "'\uFFFD'")
		tryActs(t, begun+"\x7f\x80A", "'\uFFFD' '\uFFFD' 'A'")
		tryActs(t, begun+"\x1b", "'\uFFFD'")
		tryActs(t, begun+"\x1bAB", "'\uFFFD' EA 'B'")
		tryActs(t, begun+"A", "'\uFFFD' 'A'")
		tryActs(t, begun+begun+"A", "'\uFFFD' '\uFFFD' 'A'")
		tryActs(t, begun+"\xff", "'\uFFFD' '\uFFFD'")
		for _, sequence := range []string{"\x1b", "\x1b#", "\x1b##", "\x1b[1", "\x1b[1<"} {
			tryActs(t, sequence+begun+"\r", "'\uFFFD' ^13")
			tryActs(t, sequence+begun+"\x18", "'\uFFFD' ^24")
		}
	}
	tryActs(t, "\x1b\xe2\x82\xacA", "'€' 'A'")
	tryActs(t, "\x1b[1\xe2\x82\xac;m", "'€' ';' 'm'")
	tryActs(t, "\x7f\x7f", "")
}

// P11.1: numbers of sequences: none, empty ones, too many, too great ones.
func TestNumbers(t *testing.T) {
	for given, want := range map[string]string{
		"":                                       "[]",
		"0":                                      "[0]",
		"00":                                     "[0]",
		"7":                                      "[7]",
		"25":                                     "[25]",
		";":                                      "[0,0]",
		":":                                      "[0,0]",
		";;":                                     "[0,0,0]",
		";:;":                                    "[0,0,0,0]",
		";5":                                     "[0,5]",
		"5;":                                     "[5,0]",
		"5:":                                     "[5,0]",
		":5":                                     "[0,5]",
		"1;;3":                                   "[1,0,3]",
		"1::3":                                   "[1,0,3]",
		"1;2:3":                                  "[1,2,3]",
		"38:2::1:2:3":                            "[38,2,0,1,2,3]",
		"9998":                                   "[9998]",
		"9999":                                   "[9999]",
		"10000":                                  "[9999]",
		"10001":                                  "[9999]",
		"99990":                                  "[9999]",
		"65536":                                  "[9999]",
		"4294967297":                             "[9999]",
		"00000000000012":                         "[12]",
		"18446744073709551617;3":                 "[9999,3]",
		strings.Repeat("9", 5000):                "[9999]",
		strings.Repeat("0", 5000) + "3":          "[3]",
		"1;" + strings.Repeat("1", 3000):         "[1,9999]",
		"1;2;3;4;5;6;7;8;9;10;11;12;13;14;15":    "[1,2,3,4,5,6,7,8,9,10,11,12,13,14,15]",
		"1;2;3;4;5;6;7;8;9;10;11;12;13;14;15;":   "[1,2,3,4,5,6,7,8,9,10,11,12,13,14,15,0]",
		"1;2;3;4;5;6;7;8;9;10;11;12;13;14;15;16": "[1,2,3,4,5,6,7,8,9,10,11,12,13,14,15,16]",
		"1;2;3;4;5;6;7;8;9;10;11;12;13;14;15;16;":            "[1,2,3,4,5,6,7,8,9,10,11,12,13,14,15,16]",
		"1;2;3;4;5;6;7;8;9;10;11;12;13;14;15;16;17":          "[1,2,3,4,5,6,7,8,9,10,11,12,13,14,15,16]",
		"1;2;3;4;5;6;7;8;9;10;11;12;13;14;15;16;17;18:19;20": "[1,2,3,4,5,6,7,8,9,10,11,12,13,14,15,16]",
		strings.Repeat(";", 15):                              "[0,0,0,0,0,0,0,0,0,0,0,0,0,0,0,0]",
		strings.Repeat(";", 16):                              "[0,0,0,0,0,0,0,0,0,0,0,0,0,0,0,0]",
		strings.Repeat("3;", 5000) + "4":                     "[3,3,3,3,3,3,3,3,3,3,3,3,3,3,3,3]",
		strings.Repeat(":", 16) + "77":                       "[0,0,0,0,0,0,0,0,0,0,0,0,0,0,0,0]",
		strings.Repeat(":", 15) + "77;88" + "99;" + "11":     "[0,0,0,0,0,0,0,0,0,0,0,0,0,0,0,77]",
	} {
		for _, mark := range []string{"", "<", "=", ">", "?"} {
			tryActs(t, "\x1b["+mark+given+"mA", "C"+mark+want+"m 'A'")
		}
		for _, mark := range []string{" ", "!", "$", "/"} {
			tryActs(t, "\x1b["+given+mark+"~A", "C"+mark+want+"~ 'A'")
		}
	}
	tryActs(t, "\x1b[1;\n2\x00;\x7f3\x19m", "^10 ^0 ^25 C[1,2,3]m")
	tryActs(t, "\x1b[5m\x1b[m\x1b[;m", "C[5]m C[]m C[0,0]m")
}

// P11.1: marks, doubled ones, and such as stand at the wrong place.
func TestMarks(t *testing.T) {
	for given, want := range map[string]string{
		"[??5hA": "'A'", "[<=hA": "'A'", "[?>5;6hA": "'A'", "[5?hA": "'A'", "[;?hA": "'A'", "[5;6>7hA": "'A'",
		"[? hA": "'A'", "[?5 hA": "'A'", "[5  hA": "'A'", "[5 !hA": "'A'", "[ 5hA": "'A'", "[5 5hA": "'A'", "[5 ;hA": "'A'",
		"[5 :hA": "'A'", "[5 ?hA": "'A'", "[ ?hA": "'A'", "[ <5;6 /?:@A": "'A'", "[5<\r5hA": "^13 'A'", "[ hA": "C []h 'A'",
		"[?\r5hA": "^13 C?[5]h 'A'", "[\r?5hA": "^13 C?[5]h 'A'", "[\x7f?5hA": "C?[5]h 'A'", "[5\x7f\r hA": "^13 C [5]h 'A'",
		"[1$$$$$$$$[A": "'A'", "[?[A": "C?[][ 'A'", "[[[A": "C[][ '[' 'A'",
		"#8A": "E#8 'A'", "(BA": "E(B 'A'", " FA": "E F 'A'", "/~A": "E/~ 'A'", "#[A": "E#[ 'A'", "#]A": "E#] 'A'", "#PA": "E#P 'A'",
		"#XA": "E#X 'A'", "#^A": "E#^ 'A'", "#_A": "E#_ 'A'", "##8A": "'A'", "# 8A": "'A'", "#####0A": "'A'", "##[A": "'A'",
		"##\r\x7f\x00]A": "^13 ^0 'A'", "#\r\x7f8A": "^13 E#8 'A'", "\r\x7f8A": "^13 E8 'A'", "0A": "E0 'A'", "~A": "E~ 'A'", "\\A": "E\\ 'A'",
		"##\x1b8A": "E8 'A'", "[5<\x1b8A": "E8 'A'", "\x1b8A": "E8 'A'", "[5\x1b[6mA": "C[6]m 'A'", "[?\x1b[6mA": "C[6]m 'A'", "#\x1b8A": "E8 'A'",
	} {
		tryActs(t, "\x1b"+given, want)
	}
}

// P11.1, P11.3: texts of all lengths around the bound, what may be in them, and what ends them.
func TestTexts(t *testing.T) {
	for _, n := range []int{0, 1, 2, 254, 255, 256, 257, 258, 511, 512, 513, 70000} {
		text := strings.Repeat("\xe2\x7f ~;x\x80\xff[]", n/10+1)[:n]
		act := fmt.Sprintf("O%q ", text)
		if n > 256 {
			act = ""
		}
		tryActs(t, "\x1b]"+text, "")
		tryActs(t, "\x1b]"+text+"\aA", act+"'A'")
		tryActs(t, "\x1b]"+text+"\x18A", "'A'")
		tryActs(t, "\x1b]"+text+"\x1aA", "'A'")
		tryActs(t, "\x1b]"+text+"\x1b\\A", act+"E\\ 'A'")
		tryActs(t, "\x1b]"+text+"\x1b]b\aA", act+"O\"b\" 'A'")
		tryActs(t, "\x1b]\n"+text+"\x00\x06\x08\x17\x19\x1c\x1f\aA", act+"'A'")
		for _, opener := range []string{"P", "X", "^", "_"} {
			tryActs(t, "\x1b"+opener+text+"\a\rA\x18A", "'A'")
			tryActs(t, "\x1b"+opener+text+"\a\rA\x1aA", "'A'")
			tryActs(t, "\x1b"+opener+text+"\a\rA\x1b\\A", "E\\ 'A'")
		}
	}
	tryActs(t, "\x1b]"+strings.Repeat("x", 300)+"\a\x1b]ab\a", `O"ab"`)
	tryActs(t, "\x1b]\x1b]a\x1b]\a", `O"" O"a" O""`)
	tryActs(t, "\x1b]a\xe2\x82\a\xac", "O\"a\\xe2\\x82\" '\uFFFD'")
}

// tryLay has Lay answer as is wanted, and what it lays be read as that act.
func tryLay(t *testing.T, a api.Act, want string) {
	t.Helper()
	got, e := parse.Lay(a)
	if e != 0 || string(got) != want {
		t.Errorf("Lay(%+v) = %q, %d, want %q", a, got, e, want)
	}
	if read := told(parse.Acts(got)); read != toldOf(a) {
		t.Errorf("Acts(Lay(%+v)) = %s", a, read)
	}
}

// tryNoLay has Lay refuse an act.
func tryNoLay(t *testing.T, a api.Act) {
	t.Helper()
	if got, e := parse.Lay(a); len(got) > 0 || e != 1 {
		t.Errorf("Lay(%+v) = %q, %d, want 1", a, got, e)
	}
}

// P11.1, P11.2: Lay of letters, at all bounds of what may be one, and of all of them.
func TestLayPrint(t *testing.T) {
	t.Parallel()
	for _, r := range []rune{' ', 'a', '~', 0x80, 0x9f, 0x7ff, 0x800, 0xd7ff, 0xe000, 0xfffd, 0xffff, 0x10000, 0x10ffff} {
		tryLay(t, api.Act{Kind: 1, Rune: r}, string(r))
	}
	for _, r := range []rune{-1 << 31, -1, 0, 7, 31, 127, 0xd800, 0xdfff, 0x110000, 1<<31 - 1} {
		tryNoLay(t, api.Act{Kind: 1, Rune: r})
	}
	for r := rune(-300); r < 0x110100; r++ {
		a := api.Act{Kind: 1, Rune: r}
		b, e := parse.Lay(a)
		if may := utf8.ValidRune(r) && r >= 32 && r != 127; (e == 0) != may {
			t.Fatalf("Lay of %#x: %d", r, e)
		}
		if read := told(parse.Acts(b)); e == 0 && read != toldOf(a) {
			t.Fatalf("Acts(Lay(%+v)) = %s", a, read)
		}
	}
}

// P11.1, P11.2: Lay of control bytes and of escape sequences: each byte, with each mark.
func TestLayShort(t *testing.T) {
	for b := range 256 {
		final := byte(b)
		if a := (api.Act{Kind: 2, Final: final}); b < 32 && b != 24 && b != 26 && b != 27 {
			tryLay(t, a, string([]byte{final}))
		} else {
			tryNoLay(t, a)
		}
		for m := range 256 {
			mark := byte(m)
			a := api.Act{Kind: 3, Mark: mark, Final: final}
			switch {
			case b < 48 || b > 126, m != 0 && (m < 32 || m > 47), m == 0 && strings.Contains("[]PX^_", string(rune(b))):
				tryNoLay(t, a)
			case m == 0:
				tryLay(t, a, "\x1b"+string([]byte{final}))
			default:
				tryLay(t, a, "\x1b"+string([]byte{mark, final}))
			}
		}
	}
}

// P11.1, P11.2: Lay of control sequences: each mark with each final byte, numbers at their bounds, and as many as may be.
func TestLayCsi(t *testing.T) {
	for b := range 256 {
		for m := range 256 {
			mark, final := byte(m), byte(b)
			a := api.Act{Kind: 4, Mark: mark, Params: []int{12, 0}, Final: final}
			switch {
			case b < 64 || b > 126:
				tryNoLay(t, a)
			case m == 0:
				tryLay(t, a, "\x1b[12;0"+string(rune(b)))
			case strings.Contains("<=>?", string(rune(m))):
				tryLay(t, a, "\x1b["+string(rune(m))+"12;0"+string(rune(b)))
			case m >= 32 && m <= 47:
				tryLay(t, a, "\x1b[12;0"+string(rune(m))+string(rune(b)))
			default:
				tryNoLay(t, a)
			}
		}
	}
	tryLay(t, api.Act{Kind: 4, Final: 'm'}, "\x1b[m")
	tryLay(t, api.Act{Kind: 4, Params: []int{}, Final: 'm'}, "\x1b[m")
	tryLay(t, api.Act{Kind: 4, Mark: '?', Final: 'm'}, "\x1b[?m")
	tryLay(t, api.Act{Kind: 4, Mark: ' ', Final: 'm'}, "\x1b[ m")
	tryLay(t, api.Act{Kind: 4, Params: []int{0}, Final: 'm'}, "\x1b[0m")
	tryLay(t, api.Act{Kind: 4, Params: []int{0, 0, 9998, 9999}, Final: 'm'}, "\x1b[0;0;9998;9999m")
	for _, n := range []int{-1 << 63, -9999, -1, 10000, 1 << 32, 1<<63 - 1} {
		tryNoLay(t, api.Act{Kind: 4, Params: []int{n}, Final: 'm'})
		tryNoLay(t, api.Act{Kind: 4, Params: []int{1, 2, n}, Final: 'm'})
	}
	for n := range 40 {
		a := api.Act{Kind: 4, Mark: '>', Final: '~'}
		text := ""
		for i := range n {
			a.Params = append(a.Params, 9999-i)
			text += ";" + strconv.Itoa(9999-i)
		}
		if n > mostNumbers {
			tryNoLay(t, a)
			continue
		}
		tryLay(t, a, "\x1b[>"+strings.TrimPrefix(text, ";")+"~")
	}
}

// P11.1, P11.2: Lay of texts: all lengths around the bound, and each byte in them.
func TestLayOsc(t *testing.T) {
	tryLay(t, api.Act{Kind: 5}, "\x1b]\a")
	tryLay(t, api.Act{Kind: 5, Text: []byte{}}, "\x1b]\a")
	for n := range 600 {
		text := strings.Repeat("\xe2\x7f ~;x\x80\xff[]", n/10+1)[:n]
		a := api.Act{Kind: 5, Text: []byte(text)}
		if n > mostText {
			tryNoLay(t, a)
			continue
		}
		tryLay(t, a, "\x1b]"+text+"\a")
	}
	for b := range 256 {
		for _, text := range []string{"%", "a%", "%a", "ab%ab"} {
			text = strings.ReplaceAll(text, "%", string([]byte{byte(b)}))
			if a := (api.Act{Kind: 5, Text: []byte(text)}); b < 32 {
				tryNoLay(t, a)
			} else {
				tryLay(t, a, "\x1b]"+text+"\a")
			}
		}
	}
}

// goodActs are acts that may be, one of each kind and more.
func goodActs() []api.Act {
	return []api.Act{
		{Kind: 1, Rune: 'a'}, {Kind: 1, Rune: '€'}, {Kind: 1, Rune: 0xfffd}, {Kind: 1, Rune: 0x80},
		{Kind: 2, Final: 0}, {Kind: 2, Final: 7}, {Kind: 2, Final: 31},
		{Kind: 3, Final: '7'}, {Kind: 3, Final: '\\'}, {Kind: 3, Mark: '#', Final: '8'}, {Kind: 3, Mark: '(', Final: ']'},
		{Kind: 4, Final: 'm'}, {Kind: 4, Mark: '?', Params: []int{25}, Final: 'h'}, {Kind: 4, Params: []int{0, 9999}, Final: '['},
		{Kind: 4, Mark: ' ', Params: []int{1}, Final: 'q'},
		{Kind: 5}, {Kind: 5, Text: []byte("0;a")}, {Kind: 5, Text: []byte("\x7f\xe2\x82")},
	}
}

// P11.1: Lay of acts with fields that their kinds don't name, and of kinds that are none.
func TestLayNot(t *testing.T) {
	names := map[int]string{1: "R", 2: "F", 3: "MF", 4: "MPF", 5: "T"}
	for _, good := range goodActs() {
		for field, set := range map[string]func(a *api.Act){
			"R": func(a *api.Act) { a.Rune = 'b' },
			"M": func(a *api.Act) { a.Mark = '#' },
			"F": func(a *api.Act) { a.Final = 'm' },
			"P": func(a *api.Act) { a.Params = []int{0} },
			"T": func(a *api.Act) { a.Text = []byte(" ") },
		} {
			a := good
			if set(&a); !strings.Contains(names[a.Kind], field) {
				tryNoLay(t, a)
			}
		}
		a := good
		a.Rune = -a.Rune - 1
		tryNoLay(t, a)
		for _, kind := range []int{-1 << 63, -1, 0, 6, 7, 256, 1<<32 + 1, 1<<63 - 1} {
			a := good
			a.Kind = kind
			tryNoLay(t, a)
			tryNoLay(t, api.Act{Kind: kind})
		}
		// A list without elements says the same, nil or not.
		want, _ := parse.Lay(good)
		a = good
		a.Params, a.Text = append([]int{}, a.Params...), append([]byte{}, a.Text...)
		tryLay(t, a, string(want))
	}
	tryNoLay(t, api.Act{})
}

// anyAct is an act that may be.
func anyAct(roll func(int) int) api.Act {
	for {
		a := api.Act{Kind: 1 + roll(5)}
		switch a.Kind {
		case 1:
			a.Rune = rune(32 + roll(1<<(4+roll(17))))
		case 2:
			a.Final = byte(roll(32))
		case 3:
			a.Mark, a.Final = byte(roll(2)*(32+roll(16))), byte(48+roll(79))
		case 4:
			a.Mark, a.Final = []byte{0, byte(32 + roll(16)), byte('<' + roll(4))}[roll(3)], byte(64+roll(63))
			for range roll(mostNumbers + 1) {
				a.Params = append(a.Params, roll(1<<(1+roll(13)))%(mostNumber+1))
			}
		case 5:
			for range roll(mostText+1) / (1 + roll(9)) {
				a.Text = append(a.Text, byte(32+roll(224)))
			}
		}
		if _, e := parse.Lay(a); e == 0 {
			return a
		}
	}
}

// P11.2: rows of acts of all kinds, there and back.
func TestThereAndBack(t *testing.T) {
	good := goodActs()
	for _, row := range rows(good, 3) {
		tryBack(t, row)
	}
	roll := rolls(12)
	for range 3000 {
		var row []api.Act
		for range roll(30) {
			row = append(row, anyAct(roll))
		}
		tryBack(t, row)
	}
}

// tryBack has what Lay lays of acts, one behind the other, be read as these.
func tryBack(t *testing.T, row []api.Act) {
	t.Helper()
	var b []byte
	for _, a := range row {
		one, e := parse.Lay(a)
		if e != 0 {
			t.Fatalf("Lay(%+v): %d", a, e)
		}
		b = append(b, one...)
	}
	if got, want := told(parse.Acts(b)), told(row); got != want {
		t.Fatalf("Acts(%q) = %s, want %s", b, got, want)
	}
}

// P11.2: each act that bytes bring is laid, but for those of control bytes that Lay has none of, and for numbers and texts as they stand.
func TestBackAndThere(t *testing.T) {
	t.Parallel()
	roll := rolls(13)
	for range 3000 {
		for _, a := range parse.Acts(anyBytes(roll, 100)) {
			if a.Kind != 2 || a.Final != 24 && a.Final != 26 {
				tryBack(t, []api.Act{a})
			}
		}
	}
}

// P11.3: behind 24 a parser that isn't in the ground reads on as a new one does, whatever was ahead of it.
func TestAsNew(t *testing.T) {
	roll := rolls(14)
	for range 6000 {
		p, m := parse.New(), newModel()
		for _, b := range anyBytes(roll, 1+roll(40)) {
			p.Feed(b)
			m.feed(b)
		}
		if m.sequence == "" {
			continue
		}
		for _, end := range []byte{24, 26} {
			if acts := p.Feed(end); end == 24 && len(acts) > 0 {
				t.Fatalf("24 brings %s", told(acts))
			}
		}
		fresh := parse.New()
		fresh.Feed(26)
		for _, b := range anyBytes(roll, 60) {
			if got, want := told(p.Feed(b)), told(fresh.Feed(b)); got != want {
				t.Fatalf("behind 24 %d brings %s, want %s", b, got, want)
			}
		}
	}
}

// P11.3: no act has more numbers, greater ones, or a longer text than may be.
func TestEnds(t *testing.T) {
	t.Parallel()
	roll := rolls(15)
	longest := map[string]int{}
	for range 3000 {
		var b []byte
		for range 6 {
			switch roll(3) {
			case 0:
				b = append(append(b, "\x1b]"...), strings.Repeat("a", 200+roll(120))...)
				b = append(b, "\a\x1b\x18\x1a"[roll(4)])
			case 1:
				b = append(append(b, "\x1b["...), strings.Repeat("98765;", 10+roll(12))...)
				b = append(b, 'm')
			default:
				b = append(b, anyBytes(roll, roll(300))...)
			}
		}
		for _, a := range parse.Acts(b) {
			longest["numbers"] = max(longest["numbers"], len(a.Params))
			longest["number"] = max(longest["number"], slices.Max(append(a.Params, 0)))
			longest["least"] = min(longest["least"], slices.Min(append(a.Params, 0)))
			longest["text"] = max(longest["text"], len(a.Text))
		}
	}
	if longest["numbers"] != mostNumbers || longest["number"] != mostNumber || longest["least"] != 0 || longest["text"] != mostText {
		t.Errorf("the greatest ones: %v", longest)
	}
}

// P11.1: it makes no odds whether bytes come at once, or one by one, with other parsers at work between them.
func TestOneByOne(t *testing.T) {
	roll := rolls(16)
	for range 500 {
		b, other := anyBytes(roll, 200), parse.New()
		p := parse.New()
		var acts []api.Act
		for _, each := range b {
			acts = append(acts, p.Feed(each)...)
			other.Feed(byte(roll(256)))
			parse.Acts(b[:roll(8)])
		}
		if got, want := told(acts), told(parse.Acts(b)); got != want {
			t.Fatalf("of %q one by one %s, at once %s", b, got, want)
		}
	}
}

// R1, R4: a nil parser, no bytes.
func TestNothing(t *testing.T) {
	var p *parse.Parser
	for b := range 256 {
		if acts := p.Feed(byte(b)); len(acts) > 0 {
			t.Errorf("a nil parser tells %s of %d", told(acts), b)
		}
	}
	if len(parse.Acts(nil)) > 0 || len(parse.Acts([]byte{})) > 0 {
		t.Error("no bytes bring acts")
	}
}

// R2: the same answers each time, by goroutines side by side too.
func TestSameAgain(t *testing.T) {
	b := anyBytes(rolls(17), 5000)
	want := told(parse.Acts(b))
	var group sync.WaitGroup
	for range 8 {
		group.Go(func() {
			if got := told(parse.Acts(b)); got != want {
				t.Error("other acts of the same bytes")
			}
			for _, a := range goodActs() {
				tryBack(t, []api.Act{a})
			}
		})
	}
	group.Wait()
}

// R3: what is handed in stays as it is, its spare room too.
func TestHandedInStays(t *testing.T) {
	all := anyBytes(rolls(18), 400)
	kept := slices.Clone(all)
	parse.Acts(all[:300])
	if !slices.Equal(all, kept) {
		t.Error("Acts changed the bytes")
	}
	params, text := []int{1, 2, 3, 4}, []byte("abcd")
	parse.Lay(api.Act{Kind: 4, Params: params[:2], Final: 'm'})
	parse.Lay(api.Act{Kind: 5, Text: text[:2]})
	parse.Lay(api.Act{Kind: 5, Text: text[:2], Params: params[:2]})
	if !slices.Equal(params, []int{1, 2, 3, 4}) || string(text) != "abcd" {
		t.Error("Lay changed the act")
	}
}

// scribble writes over all that an answer has, its spare room too.
func scribble(acts []api.Act) {
	for i := range acts {
		for j := range acts[i].Params[:cap(acts[i].Params)] {
			acts[i].Params[:cap(acts[i].Params)][j] = -1
		}
		for j := range acts[i].Text[:cap(acts[i].Text)] {
			acts[i].Text[:cap(acts[i].Text)][j] = '!'
		}
	}
	acts = acts[:cap(acts)]
	for i := range acts {
		acts[i] = api.Act{Kind: -1, Params: []int{-1}}
	}
}

// R3: what is answered is new memory, and may be written over.
func TestNewMemory(t *testing.T) {
	roll := rolls(19)
	for range 500 {
		p, m := parse.New(), newModel()
		for i, b := range anyBytes(roll, 300) {
			acts := p.Feed(b)
			if got, want := told(acts), told(m.feed(b)); got != want {
				t.Fatalf("byte %d: %s, want %s", i, got, want)
			}
			scribble(acts)
		}
	}
	b := []byte("\x1b]abc\a\x1b[1;2;3m\x1b]abc\x1b[1;2;3m\x1b[1;2;3m")
	want := told(parse.Acts(b))
	acts := parse.Acts(b)
	scribble(acts[:1:1])
	if got := told(acts[1:]); !strings.HasSuffix(want, " "+got) {
		t.Errorf("lists of one answer share memory: %s, want %s", got, want)
	}
	scribble(acts)
	if got := told(parse.Acts(b)); got != want {
		t.Errorf("Acts = %s behind writing over an answer", got)
	}
	text := []byte("abc")
	laid, _ := parse.Lay(api.Act{Kind: 5, Text: text})
	for i := range laid[:cap(laid)] {
		laid[:cap(laid)][i] = '!'
	}
	if string(text) != "abc" {
		t.Error("Lay's answer shares the act's memory")
	}
	if again, _ := parse.Lay(api.Act{Kind: 5, Text: text}); string(again) != "\x1b]abc\a" {
		t.Errorf("Lay = %q behind writing over an answer", again)
	}
}

// R3: an answer stays as it is, whatever the parser is fed behind it.
func TestAnswersStay(t *testing.T) {
	roll := rolls(20)
	for range 300 {
		p := parse.New()
		var all [][]api.Act
		var want []string
		for _, b := range anyBytes(roll, 300) {
			acts := p.Feed(b)
			all, want = append(all, acts), append(want, told(acts))
		}
		for i, acts := range all {
			if got := told(acts); got != want[i] {
				t.Fatalf("an answer is %s now, and was %s", got, want[i])
			}
		}
	}
}

// R3: bytes that are changed behind Acts leave its answer as it is.
func TestNotKept(t *testing.T) {
	b := []byte("\x1b]abc\a\x1b[1;2m")
	acts := parse.Acts(b)
	clear(b)
	if got := told(acts); got != `O"abc" C[1,2]m` {
		t.Errorf("the answer is %s now", got)
	}
	text := []byte("abc")
	laid, _ := parse.Lay(api.Act{Kind: 5, Text: text})
	clear(text)
	if string(laid) != "\x1b]abc\a" {
		t.Errorf("what was laid is %q now", laid)
	}
}
