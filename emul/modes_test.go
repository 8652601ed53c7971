package emul_test

import (
	"fmt"
	"strings"
	"testing"

	"spyglass/api"
)

// P12.1: 4 among the numbers of h and l, and others there.
func TestInsertMode(t *testing.T) {
	tryAll(t, 4, 1, "ab", []trial{
		{"^[4h^[Gx", "xab. 1,0"},
		{"^[0;4;1h^[Gx", "xab. 1,0"},
		{"^[1;4h^[Gx", "xab. 1,0"},
		{"^[4;4h^[Gx", "xab. 1,0"},
		{"^[h^[Gx", "xb.. 1,0"},
		{"^[0h^[Gx", "xb.. 1,0"},
		{"^[3;5;40h^[Gx", "xb.. 1,0"},
		{"^[?4h^[Gx", "xb.. 1,0"},
		{"^[>4h^[Gx", "xb.. 1,0"},
		{"^[4h^[4l^[Gx", "xb.. 1,0"},
		{"^[4h^[1;4;2l^[Gx", "xb.. 1,0"},
		{"^[4h^[l^[1l^[?4l^[Gx", "xab. 1,0"},
		{"^[4h^[!p^[Gx", "xb.. 1,0"},
		{"^[4h^cx", "x... 1,0"},
		{"^[6;7;25;1000h^[Gx", "xb.. 1,0"},
		{"^[25l^[47h^[1049h^[Gx", "xb.. 1,0"},
	})
}

// P12.1: whether it wraps, whether the cursor is hidden, and the mouse; several modes in one act, in their order.
func TestModes(t *testing.T) {
	tryAll(t, 2, 2, "", []trial{
		{"^[?7labc", "ac/.. 1,0"},
		{"^[?7l^[?7habc", "ab/c. 1,1"},
		{"^[?7habc", "ab/c. 1,1"},
		{"^[?7;7labc", "ac/.. 1,0"},
		{"^[7labc", "ab/c. 1,1"},
		{"^[?7l^[!pabc", "ab/c. 1,1"},
		{"^[?7l^cabc", "ab/c. 1,1"},
		{"^[?25l", "../.. 0,0 hidden"},
		{"^[?25l^[?25l", "../.. 0,0 hidden"},
		{"^[?25l^[?25h", "../.. 0,0"},
		{"^[?25h", "../.. 0,0"},
		{"^[25l", "../.. 0,0"},
		{"^[?25l^[!p", "../.. 0,0"},
		{"^[?25l^c", "../.. 0,0"},
		{"^[?25la^[?47h", "../.. 1,0 hidden"},
		{"^[?25l^7^[?25h^8", "../.. 0,0"},
		{"^[?1000h", "../.. 0,0 mouse 1"},
		{"^[?1002h", "../.. 0,0 mouse 2"},
		{"^[?1003h", "../.. 0,0 mouse 2"},
		{"^[?1000h^[?1000l", "../.. 0,0"},
		{"^[?1000h^[?1002l", "../.. 0,0"},
		{"^[?1000h^[?1003l", "../.. 0,0"},
		{"^[?1002h^[?1000l", "../.. 0,0"},
		{"^[?1003h^[?1002l", "../.. 0,0"},
		{"^[?1003h^[?1003l", "../.. 0,0"},
		{"^[?1003h^[?1000h", "../.. 0,0 mouse 1"},
		{"^[?1000h^[?1003h", "../.. 0,0 mouse 2"},
		{"^[?1000;1002h", "../.. 0,0 mouse 2"},
		{"^[?1002;1000h", "../.. 0,0 mouse 1"},
		{"^[?1001;1004;1005;1006;999h", "../.. 0,0"},
		{"^[?1002h^[?1001;1004;1005;1006;999l", "../.. 0,0 mouse 2"},
		{"^[1000h^[1002h", "../.. 0,0"},
		{"^[?1002h^[!p", "../.. 0,0 mouse 2"},
		{"^[?1002h^c", "../.. 0,0"},
		{"^[?1002h^[?47h", "../.. 0,0 mouse 2"},
		{"^[?h^[?l^[?0h^[?0l", "../.. 0,0"},
		{"^[?25;1000;7labc", "ac/.. 1,0 hidden"},
		{"^[?0;25;9999;1000l", "../.. 0,0 hidden"},
		{"^[?25:1000l^[?1000:1002h", "../.. 0,0 hidden mouse 2"},
		{"a^[?6;47h", "../.. 0,0"},
		{"^[?1;2;3;4;5;8;9;10;11;12;13;14;15;16;17;25l", "../.. 0,0 hidden"},
		{"^[?1;2;3;4;5;8;9;10;11;12;13;14;15;16;17;18;25l", "../.. 0,0"},
		{"^[?25x^[?25p^[?25m^[?7s", "../.. 0,0"},
		{"^[!h^[!l^[!25l^[ p", "../.. 0,0"},
	})
}

// P12.1: each mode's number, set and not, against the model.
func TestEachMode(t *testing.T) {
	t.Parallel()
	for n := range 2100 {
		if n > 100 && n < 990 && testing.Short() {
			continue
		}
		b := newBoth(t, 4, 3)
		b.feed("ab^[2;3r^[2;2H^[41m")
		for _, a := range []api.Act{
			{Kind: 4, Mark: '?', Final: 'h', Params: []int{n}},
			{Kind: 4, Mark: '?', Final: 'l', Params: []int{n}},
			{Kind: 4, Final: 'h', Params: []int{n}},
			{Kind: 4, Final: 'l', Params: []int{n}},
			{Kind: 4, Mark: '?', Final: 'l', Params: []int{9999, n, n}},
			{Kind: 4, Mark: '?', Final: 'h', Params: []int{1049, n}},
		} {
			b.do(a)
			b.feedEach([]string{"^[H", "xy中z", "^[D", "^[Gw"})
		}
	}
}

// P12.1: the other grid: shown, shown again while it is shown, and blanks whenever it comes; the main one stays as it was.
func TestOtherGrid(t *testing.T) {
	for _, n := range []string{"47", "1047"} {
		tryAll(t, 3, 2, "ab", []trial{
			{"^[?" + n + "h", ".../... 2,0"},
			{"^[?" + n + "hx", "..x/... 2,0"},
			{"^[?" + n + "hx^[?" + n + "l", "ab./... 2,0"},
			{"^[?" + n + "hx^[?" + n + "ly", "aby/... 2,0"},
			{"^[?" + n + "h^[Hxyz12^[?" + n + "l", "ab./... 2,1"},
			{"^[?" + n + "hx^[?" + n + "h", "..x/... 2,0"},
			{"^[?" + n + "hx^[?" + n + "l^[?" + n + "h", ".../... 2,0"},
			{"^[?" + n + "l", "ab./... 2,0"},
			{"^[?" + n + "l^[?" + n + "lx", "abx/... 2,0"},
			{"^[41m^[?" + n + "h", ".../... 2,0"},
			{"^[41m^[?" + n + "h^[J", "..2/222 2,0"},
			{"^[41m^[?" + n + "h^[2J^[?" + n + "l", "ab./... 2,0"},
			{"^[2;1H^[?" + n + "hx\n\n^[?" + n + "l", "ab./... 1,1"},
			{"^[?" + n + "h^[S^[L^[M^[@^[P^[T^[?" + n + "l", "ab./... 0,0"},
			{"^[?" + n + ";" + n + "hx", "..x/... 2,0"},
			{"^[" + n + "h", "ab./... 2,0"},
			{"^[?" + n + "hx^c", ".../... 0,0"},
			{"^[?" + n + "hx^c^[?47l", ".../... 0,0"},
			{"^[?" + n + "hx^[!p^[Hy^[?47l", "ab./... 1,0"},
			{"^[?" + n + "h^8x", "x../... 1,0"},
		})
	}
	tryAll(t, 3, 2, "ab^[2;3H^[41m", []trial{
		{"^[?1049h", ".../... 2,1"},
		{"^[?1049h^[Hxy^[?1049l", "ab./... 2,1"},
		{"^[?1049h^[42m^[H^[?1049l^[X", "ab./..2 2,1"},
		{"^[?1049h^[42m^[H^[?1047l^[X", "3b./... 0,0"},
		{"^[?1049h^[42m^[H^[?47l^8^[X", "ab./..2 2,1"},
		{"^[?1049l", "ab./... 0,0"},
		{"^7^[H^[?1049l", "ab./... 2,1"},
		{"^[?1047h^[H^[?1049l^[X", ".b./... 0,0"},
		{"^[?1047hx^[?1049h^[Hy^[?1049l", "ab./... 2,1"},
		{"^[?1047h^[1;2Hx^[?1049hy", ".xy/... 2,0"},
		{"^[?1049h^[1;2H^[?1049h^[H^[?1049l", "ab./... 1,0"},
		{"^[?1049h^[?6h^[1;2r^[?1049l^[X", "ab./..2 2,1"},
		{"^[?1049;1049h^[?1049;1049l", "ab./... 2,1"},
	})
}

// P12.1: 47, 1047 and 1049, set and not, in all orders, with letters, pens and places between, against the model.
func TestOtherGridInAllOrders(t *testing.T) {
	t.Parallel()
	var all []string
	for _, n := range []string{"47", "1047", "1049"} {
		all = append(all, "^[?"+n+"h", "^[?"+n+"l")
	}
	var walk func(ahead []string)
	walk = func(ahead []string) {
		if len(ahead) == 4 {
			b := newBoth(t, 5, 3)
			b.feed("ab^[2;2H^[41m")
			for i, text := range ahead {
				b.feedEach([]string{text, string(rune('p' + i)), fmt.Sprintf("^[%dm^[X", 42+i), "\n"})
			}
			b.feedEach([]string{"^8", "x", "^[?47l", "y"})
			return
		}
		for _, text := range all {
			walk(append(ahead[:len(ahead):len(ahead)], text))
		}
	}
	walk(nil)
}

// P12.1: what ! p makes as at first, and what it leaves.
func TestSoftReset(t *testing.T) {
	tryAll(t, 3, 4, "a\r\nb\r\nc\r\nd^[2;2H^7^[2;3r^[?6;25;1000h^[4h^[?7;25l^[41m^[2;2Hxy^]0;t\x07^[3G^H^[!p", []trial{
		{"", "a../b../cxy/d.. 2,2 mouse 1 title t"},
		{"^[X", "a../b../cx./d.. 2,2 mouse 1 title t"},
		{"^[d", "a../b../cxy/d.. 2,0 mouse 1 title t"},
		{"^[S", "b../cxy/d../... 2,2 mouse 1 title t"},
		{"^8", "a../b../cxy/d.. 0,0 mouse 1 title t"},
		{"zw", "a../b../cxz/w.. 1,3 mouse 1 title t"},
		{"^[Gz", "a../b../zxy/d.. 1,2 mouse 1 title t"},
		{"^[G\t", "a../b../cxy/d.. 2,2 mouse 1 title t"},
		{"^[b", "a../b../cxy/d.. 2,2 mouse 1 title t"},
	})
	tryAll(t, 2, 1, "a^[?25l", []trial{{"^[p", "a. 1,0 hidden"}, {"^[?p", "a. 1,0 hidden"}, {"^[ p", "a. 1,0 hidden"}, {"^[!q", "a. 1,0 hidden"}, {"^[9;9!p", "a. 1,0"}, {"^!p", "a. 1,0 hidden"}})
	try(t, 2, 3, "^[2;3r^[?6h^[!p^[2;3rx", "x./../.. 1,0")
	// The cursor isn't brought home, though the margins are free.
	try(t, 2, 3, "^[2;3r^[?6h^[2H^[!p", "../../.. 0,2")
}

// P12.1: behind ESC c all is as in a new terminal but the parser.
func TestReset(t *testing.T) {
	const ahead = "abc\r\n中^[2;3r^[?6;1002;1049h^[4h^[?7;25l^[1;41mxyz^[2;2H^7^]0;t\x07^]8;;x\x07^H^[3g^[38;5;9mq"
	for _, probe := range probes() {
		term, fresh := fed(t, 9, 5, ahead+"^c"), newTerm(t, 9, 5)
		for _, text := range append([]string{""}, strings.Split(probe, "|")...) {
			term.Feed(bytesOf(text))
			fresh.Feed(bytesOf(text))
			if got, want := term.Screen(), fresh.Screen(); !same(got, want) {
				t.Fatalf("%q behind ESC c: %s, want %s", probe, drawn(got), drawn(want))
			}
		}
	}
	// The parser goes on with what it has begun, if the act comes from elsewhere.
	term := fed(t, 3, 1, "a^[2")
	term.Do(api.Act{Kind: 3, Final: 'c'})
	term.Feed([]byte("Gx"))
	shows(t, term, "within a sequence", ".x. 2,0")
	term = fed(t, 3, 1, "a\xe4\xb8")
	term.Do(api.Act{Kind: 3, Final: 'c'})
	term.Feed([]byte("\xad"))
	shows(t, term, "within a letter", "中~. 2,0")
	// Its table of links is empty again.
	links := ""
	for i := range mostLinks {
		links += "^]8;;" + string(rune('a'+i)) + "\x07x"
	}
	try(t, 20, 1, links+"^]8;;q\x07x^[G^[K^c^]8;;q\x07xy", "xy.................. 2,0 links [q]")
}

// originProbe is one more, which tells whether they have their origin at the margins.
const originProbe = "^[2;4r|x|^[2d|y"

// probes are texts, with strokes between their pieces, that tell terminals of nine columns and five rows from one another.
func probes() []string {
	return []string{
		"^[b|q|^[2b|中|\t|r|^[Z|s|\n|\n|\n|\n|\n|t|^M|^M|^M|^M|^M|u|^[9A|v|^[9B|w|^[2;3H|x|^[7G|abcdef|^[4Gi|^8|y|^[d|z",
		"q|^[3;8H|中|国|^[X|^[3I|^[g|^[9Z|^[2;9r|^[?6h|1|^[?47h|2|^[?47l|3|^[H|^[9d|4|^[S|^[T|^[2L|5",
		"^[2@|^[P|^[?1049h|5|^[9B|6|\n|7|^[?1049l|8|^[A|^[?7l|^[9C|abc|^[?7h|abc|^[!p|def|^[9;9H|ghi",
		"^]8;;a\x07|x|^]8;;b\x07|y|^]8;;\x07|z|^[0m|^[1J|^8|x",
	}
}
