package emul_test

import (
	"fmt"
	"slices"
	"strings"
	"testing"

	"spyglass/api"
)

// tryTitle has a command's text make such a title of none, and of another one.
func tryTitle(t *testing.T, text, want string) {
	t.Helper()
	for _, ahead := range []string{"", "0;before"} {
		term := newTerm(t, 2, 1)
		term.Do(api.Act{Kind: 5, Text: []byte(ahead)})
		term.Do(api.Act{Kind: 5, Text: []byte(text)})
		s := term.Screen()
		right(t, s, text)
		if s.Title != want {
			t.Errorf("%q: the title is %q, want %q", text, s.Title, want)
		}
	}
}

// P12.1: titles: which texts are some, and how they are cut.
func TestTitles(t *testing.T) {
	a := func(n int) string { return strings.Repeat("a", n) }
	wide := func(n int) string { return strings.Repeat("中", n) }
	for text, want := range map[string]string{
		"":                            "",
		"a":                           "a",
		"a b":                         "a b",
		" a ":                         " a ",
		"a;b;":                        "a;b;",
		";":                           ";",
		";;a":                         ";;a",
		a(63):                         a(63),
		a(64):                         a(64),
		a(65):                         a(64),
		a(254):                        a(64),
		a(62) + "é":                   a(62) + "é",
		a(63) + "é":                   a(63),
		a(63) + "éb":                  a(63),
		a(63) + "é\u0301bc":           a(63),
		a(61) + "中":                   a(61) + "中",
		a(62) + "中":                   a(62),
		a(62) + "中b":                  a(62),
		a(62) + "中é":                  a(62),
		a(60) + "\U0001F600":          a(60) + "\U0001F600",
		a(61) + "\U0001F600":          a(61),
		a(61) + "\U0001F600bcd":       a(61),
		wide(21):                      wide(21),
		wide(22):                      wide(21),
		wide(21) + "b":                wide(21) + "b",
		wide(21) + "bc":               wide(21) + "b",
		wide(21) + "é":                wide(21),
		"a\u0301b":                    "ab",
		"\u0301\u200b\ufe0f":          "",
		"a\x7fb\u0085c\u009fd":        "abcd",
		"a\x00b\x07c\x1bd\x1fe\nf":    "abcdef",
		strings.Repeat("\u0301a", 80): a(64),
		"\x7f" + a(64):                a(64),
		"a\xe2\x82b":                  "a\uFFFDb",
		"\xe2\x82":                    "\uFFFD",
		"\xe2\x82\xe2\x82":            "\uFFFD\uFFFD",
		"\xc0\x80":                    "\uFFFD\uFFFD",
		"\xed\xa0\x80":                "\uFFFD\uFFFD\uFFFD",
		"\xff":                        "\uFFFD",
		"\xf0\x9f\x98":                "\uFFFD",
		strings.Repeat("\xff", 100):   strings.Repeat("\uFFFD", 21),
		a(61) + "\xff":                a(61) + "\uFFFD",
		a(62) + "\xffb":               a(62),
		"\uFFFD":                      "\uFFFD",
	} {
		tryTitle(t, "0;"+text, want)
		tryTitle(t, "2;"+text, want)
	}
}

// P12.1: texts that make no title.
func TestNoTitles(t *testing.T) {
	for _, text := range []string{"", "0", "2", "1;a", "3;a", "00;a", "02;a", "0 ;a", " 0;a", "+0;a", "20;a", "-2;a", ";a", ";0;a", "8;a", "a", "l;a", "0:a", "\uFF10;a"} {
		term := fed(t, 2, 1, "^]0;before\x07")
		term.Do(api.Act{Kind: 5, Text: []byte(text)})
		shows(t, term, text, ".. 0,0 title before")
	}
	// A text of more than 256 bytes, and one of as many, as the terminal reads them and as acts.
	for _, n := range []int{253, 254, 255, 300} {
		text := "0;" + strings.Repeat("\u0301", (n-1)/2) + strings.Repeat("b", n-(n-1)/2*2)
		want := "before"
		if n <= 254 {
			want = strings.Repeat("b", n-(n-1)/2*2)
		}
		term := fed(t, 2, 1, "^]0;before\x07^]"+text+"\x07")
		shows(t, term, text, ".. 0,0 title "+want)
		term = fed(t, 2, 1, "^]0;before\x07")
		term.Do(api.Act{Kind: 5, Text: []byte(text)})
		shows(t, term, text, ".. 0,0 title "+want)
	}
	// Neither grids, sizes nor what is saved have to do with it.
	try(t, 2, 1, "^]2;a\x07^[?1049h^7^[!p^[?1049l^8", ".. 0,0 title a")
	try(t, 2, 1, "^]2;a\x07^c", ".. 0,0")
	try(t, 2, 1, "^]2;a^\\b", "b. 1,0 title a")
	try(t, 2, 1, "^]2;a\x18b", "b. 1,0")
}

// link is the bytes by which the pen leads to a link.
func link(uri string) string { return "^]8;;" + uri + "\x07" }

// P12.1: links given, taken away, the same ones again, and the order in which a screen tells them.
func TestLinks(t *testing.T) {
	tryAll(t, 4, 1, "", []trial{
		{link("x"), ".... 0,0"},
		{link("x") + "a", "a... 1,0 links [x]"},
		{link("x") + "ab", "ab.. 2,0 links [x]"},
		{link("x") + "a" + link("") + "b", "ab.. 2,0 links [x]"},
		{link("x") + "a" + link("y") + "b", "ab.. 2,0 links [x y]"},
		{link("x") + "a" + link("y") + "b" + link("x") + "c", "abc. 3,0 links [x y]"},
		{link("x") + "a" + link("x") + "b", "ab.. 2,0 links [x]"},
		{link("x") + link("y") + "^[2Ga" + link("x") + "^[Gb", "ba.. 1,0 links [x y]"},
		{link("x") + "中" + link("y") + "b", "中~b. 3,0 links [x y]"},
		{link("x") + "中" + link("") + "^[Gb", "b... 1,0"},
		{link("x") + "a^[2K", ".... 1,0"},
		{link("x") + "a^[2K" + "b", ".b.. 2,0 links [x]"},
		{"^]8;id=5;x\x07a", "a... 1,0 links [x]"},
		{"^]8;id=5:a=b;x\x07a^]8;id=6;x\x07b", "ab.. 2,0 links [x]"},
		{"^]8;;x;y\x07a", "a... 1,0 links [x;y]"},
		{"^]8;;;\x07a", "a... 1,0 links [;]"},
		{"^]8;a;\x07a", "a... 1,0"},
		{link("x") + "a^]8;a;\x07b", "ab.. 2,0 links [x]"},
		{link("!~") + "a", "a... 1,0 links [!~]"},
	})
	// What those cells lead to is what their pens tell.
	term := fed(t, 4, 1, link("x")+"a"+link("")+"b"+link("y")+"中")
	for i, want := range []uint16{1, 0, 2, 2} {
		if got := term.Screen().Cells[i].Pen.Link; got != want {
			t.Errorf("the cell %d has the link %d, want %d", i, got, want)
		}
	}
}

// P12.1: texts that are no links, and those that are: behind them the pen has none, or leads on as before.
func TestNoLinks(t *testing.T) {
	long := strings.Repeat("l", 64)
	try(t, 2, 1, link(long)+"a", "a. 1,0 links ["+long+"]")
	for _, uri := range []string{long + "l", "a b", " ", "x ", " x", "é", "中", "\x7f", "a\x7f", "\xff", strings.Repeat("x", 251)} {
		try(t, 3, 1, link("x")+"a"+link(uri)+"b", "ab. 2,0 links [x]")
		if c := fed(t, 3, 1, link("x")+"a"+link(uri)+"b").Screen().Cells[1]; c.Pen != (api.Pen{}) {
			t.Errorf("behind the link %q the pen is %+v", uri, c.Pen)
		}
	}
	for _, text := range []string{"8", "8;", "8;x", "8;id=1", "08;;", "88;;", "9;;", ";8;;", "8:;:;", " 8;;y", "8 ;;y", "", ";;"} {
		term := fed(t, 3, 1, link("x")+"a")
		term.Do(api.Act{Kind: 5, Text: []byte(text)})
		term.Feed([]byte("b"))
		shows(t, term, text, "ab. 2,0 links [x]")
		if c := term.Screen().Cells[1]; c.Pen.Link != 1 {
			t.Errorf("behind %q the pen is %+v", text, c.Pen)
		}
	}
	// Bytes that the parser never tells in a text.
	for _, text := range []string{"8;;a\x07", "8;;\x00", "8;;a\nb"} {
		term := fed(t, 3, 1, link("x")+"a")
		term.Do(api.Act{Kind: 5, Text: []byte(text)})
		term.Feed([]byte("b"))
		if c := term.Screen().Cells[1]; c.Pen != (api.Pen{}) {
			t.Errorf("behind %q the pen is %+v", text, c.Pen)
		}
	}
}

// letter is the i-th letter of the alphabet.
func letter(i int) string { return string(rune('a' + i)) }

// sixteen fills the table: links a to p, each with a letter in the first row.
func sixteen() string {
	var b strings.Builder
	for i := range mostLinks {
		b.WriteString(link(letter(i)) + letter(i))
	}
	return b.String()
}

// linked has the pen behind a text lead to a link, or to none, where it is empty.
func linked(t *testing.T, cols, rows int, text, uri string) {
	t.Helper()
	term := fed(t, cols, rows, text+"\r\n\n*")
	s := term.Screen()
	right(t, s, text)
	i := slices.IndexFunc(s.Cells, func(c api.Cell) bool { return c.Rune == '*' })
	got := ""
	if i >= 0 && s.Cells[i].Pen.Link > 0 {
		got = s.Links[s.Cells[i].Pen.Link-1]
	}
	if i < 0 || got != uri {
		t.Errorf("%q: the pen leads to %q, want %q: %s", text, got, uri, drawn(s))
	}
}

// P12.1: a table that is full, and one with room again behind a Sweep: what cells of either grid and the saved pen lead to stays, and nothing else.
func TestFullTable(t *testing.T) {
	all := sixteen()
	linked(t, 20, 5, all, "p")
	linked(t, 20, 5, all+link("q"), "")
	linked(t, 20, 5, all+link("q")+link("r"), "")
	linked(t, 20, 5, all+link("a"), "a")
	linked(t, 20, 5, all+link("q")+link("p"), "p")
	linked(t, 20, 5, all+link("q")+link(""), "")
	try(t, 20, 1, all+link("q")+"q", "abcdefghijklmnopq... 17,0 links [a b c d e f g h i j k l m n o p]")
	// A link whose last cell is gone makes room; so does the pen's own, if no cell has it.
	try(t, 20, 1, all+"^[3G^[X"+link("q")+"q", "abqdefghijklmnop.... 3,0 links [a b q d e f g h i j k l m n o p]")
	try(t, 20, 1, all+"^[3G^[2X"+link("q")+"q"+link("r")+"r"+link("s")+"s", "abqrsfghijklmnop.... 5,0 links [a b q r f g h i j k l m n o p]")
	linked(t, 20, 5, all+"^[3G^[X"+link("q"), "q")
	linked(t, 20, 5, all+"^[3G^[X"+link("q")+link("r"), "r")
	linked(t, 20, 5, all+"^[3G^[X"+link("q")+link("c"), "c")
	linked(t, 20, 5, all+"^[3G^[X"+link("q")+"x"+link("c"), "")
	linked(t, 20, 5, all+"^[16G^[X"+link("q"), "q")
	linked(t, 20, 5, all+"^[2K"+link("q"), "q")
	// The text in the table stays till there is no room: it needs none when it comes again.
	linked(t, 20, 5, all+"^[2K"+link("c"), "c")
	// The saved pen has its link, wherever cells are gone; the pen itself doesn't.
	linked(t, 20, 5, all+"^7^[16G^[X"+link("q"), "")
	linked(t, 20, 5, all+"^7^[2K"+link("q")+link("r")+"^8", "p")
	linked(t, 20, 5, all+"^7^[16G^[X^[!p"+link("q"), "q")
	linked(t, 20, 5, all+"^7^[16G^[X^[s"+link("q"), "")
	linked(t, 20, 5, all+"^7^[16G^[X"+link("o")+"^[s"+link("q"), "q")
	linked(t, 20, 5, all+"^7^[2K"+link("q")+"^8", "p")
	try(t, 20, 1, all+"^7^[2K"+link("q")+"q^8r", "................r... 17,0 links [p]")
	// The cells of the grid that isn't shown count, the main one's and the other one's.
	linked(t, 20, 5, all+"^[?47h"+link("q"), "")
	linked(t, 20, 5, "^[?47h"+all+"^[?47l"+link("q"), "")
	linked(t, 20, 5, "^[?47h"+all+"^[?47l^[?47h"+link("q"), "q")
	linked(t, 20, 5, "^[?47h"+all+"^[2K^[?47l"+link("q"), "q")
	linked(t, 20, 5, all+"^[2K^[?47h"+link("q"), "q")
	linked(t, 20, 5, link("a")+"a^[?47h"+strings.TrimPrefix(all, link("a")+"a")+link("q"), "")
	linked(t, 20, 5, link("a")+"a^[?47h"+strings.TrimPrefix(all, link("a")+"a")+"^[3G^[X"+link("q"), "q")
	// Links that aren't ones take none of the room, and sweep nothing.
	try(t, 20, 1, all+"^[3G^[X"+link("a b")+link("c")+"c", "abcdefghijklmnop.... 3,0 links [a b c d e f g h i j k l m n o p]")
	try(t, 20, 1, strings.Repeat(link("a b"), 20)+link("x")+"x", "x................... 1,0 links [x]")
	// What cells lead to stays the same, wherever the numbers of others are given anew.
	try(t, 20, 1, all+"^[5G^[P"+link("q")+"q"+link("")+"^[8G^[2P"+link("r")+"^[8Gr^[Gs"+link("t")+"t", "stcdqghrlmnop....... 2,0 links [r t c d q g h l m n o p]")
}

// P12.1: links that come and go, against the model.
func TestAnyLinks(t *testing.T) {
	t.Parallel()
	roll := rolls(4)
	for range rounds(600) {
		b := newBoth(t, 6, 4)
		for range 150 {
			switch roll(10) {
			case 0:
				b.feed([]string{"^7", "^8", "^[?47h", "^[?47l", "^[?1049h", "^[?1049l", "^[!p", "^[m", link(""), "\n"}[roll(10)])
			case 1:
				b.feed([]string{"^[X", "^[P", "^[@", "^[K", "^[1K", "^[S", "^[T", "^[2K", "^[M"}[roll(9)])
			case 2:
				b.feed(fmt.Sprintf("^[%d;%dH", 1+roll(4), 1+roll(6)))
			case 3, 4, 5:
				b.feed(link(letter(roll(22))))
			default:
				b.feed(string("xyz中"[roll(3)]))
			}
		}
	}
}
