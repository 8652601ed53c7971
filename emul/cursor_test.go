package emul_test

import (
	"fmt"
	"strings"
	"testing"

	"spyglass/api"
)

// lettered are rows of which each has its own letter at its first place, and the cursor at home.
func lettered(rows int) string {
	var l []string
	for y := range rows {
		l = append(l, string(rune('a'+y)))
	}
	return strings.Join(l, "\r\n") + "^[H"
}

// P12.1: one line down and one line up: at the margins, within them, above and below them, at the first and the last row.
func TestLines(t *testing.T) {
	for _, down := range []string{"\n", "\v", "\f", "^D"} {
		tryAll(t, 2, 4, lettered(4)+"^[2;3r^[41m", []trial{
			{"^[1;2H" + down, "a./b./c./d. 1,1"},
			{"^[2;2H" + down, "a./b./c./d. 1,2"},
			{"^[3;2H" + down, "a./c./22/d. 1,2"},
			{"^[4;2H" + down, "a./b./c./d. 1,3"},
			{"^[1;1H" + strings.Repeat(down, 5), "a./22/22/d. 0,2"},
		})
		tryAll(t, 2, 3, lettered(3)+"^[41m", []trial{
			{"^[2;2H" + down, "a./b./c. 1,2"},
			{"^[3;2H" + down, "b./c./22 1,2"},
			{"^[3;2H" + down + down + down, "22/22/22 1,2"},
		})
	}
	tryAll(t, 2, 4, lettered(4)+"^[2;3r^[41m", []trial{
		{"^[1;2H^M", "a./b./c./d. 1,0"},
		{"^[2;2H^M", "a./22/b./d. 1,1"},
		{"^[3;2H^M", "a./b./c./d. 1,1"},
		{"^[4;2H^M", "a./b./c./d. 1,2"},
		{"^[4;2H^M^M^M^M", "a./22/22/d. 1,1"},
		{"^[1;2H^E", "a./b./c./d. 0,1"},
		{"^[3;2H^E", "a./c./22/d. 0,2"},
		{"^[4;2H^E", "a./b./c./d. 0,3"},
	})
	tryAll(t, 2, 3, lettered(3)+"^[41m", []trial{
		{"^[1;2H^M", "22/a./b. 1,0"},
		{"^[3;2H^M", "a./b./c. 1,1"},
		{"^[3;2H^E", "b./c./22 0,2"},
	})
	// Margins at one end of the screen only.
	tryAll(t, 1, 4, lettered(4)+"^[1;2r^[41m", []trial{
		{"^[2H\n", "b/2/c/d 0,1"},
		{"^[4H\n", "a/b/c/d 0,3"},
		{"^[3H\n", "a/b/c/d 0,3"},
		{"^[1H^M", "2/a/c/d 0,0"},
		{"^[3H^M", "a/b/c/d 0,1"},
	})
	tryAll(t, 1, 4, lettered(4)+"^[3;4r^[41m", []trial{
		{"^[1H^M", "a/b/c/d 0,0"},
		{"^[2H^M", "a/b/c/d 0,0"},
		{"^[3H^M", "a/b/2/c 0,2"},
		{"^[4H\n", "a/b/d/2 0,3"},
		{"^[2H\n", "a/b/c/d 0,2"},
	})
	try(t, 1, 1, "a^[41m\n", "2 0,0")
	try(t, 1, 1, "a^[41m^M", "2 0,0")
}

// P12.1: control bytes that move the cursor, and those that do nothing.
func TestControlBytes(t *testing.T) {
	tryAll(t, 3, 2, "abc^[2;2H", []trial{
		{"\b", "abc/... 0,1"},
		{"\b\b", "abc/... 0,1"},
		{"\r", "abc/... 0,1"},
		{"^[H\b", "abc/... 0,0"},
		{"\t", "abc/... 2,1"},
		{"\t\t", "abc/... 2,1"},
		{"^[A\v", "abc/... 1,1"},
	})
	for b := range 256 {
		term := fed(t, 3, 2, "abc^[2;2H")
		term.Do(api.Act{Kind: 2, Final: byte(b)})
		want := "abc/... 1,1"
		switch b {
		case 8, 13:
			want = "abc/... 0,1"
		case 9:
			want = "abc/... 2,1"
		case 10, 11, 12:
			want = ".../... 1,1"
		}
		shows(t, term, fmt.Sprintf("the control byte %d", b), want)
	}
}

// at is where the cursor is wanted behind a text.
type at struct {
	text string
	x, y int
}

// tryAt has the cursor be where it is wanted behind each text, behind what comes ahead, and all the rest stay as it was.
func tryAt(t *testing.T, cols, rows int, ahead string, trials []at) {
	t.Helper()
	for _, each := range trials {
		term := fed(t, cols, rows, ahead)
		want := term.Screen()
		want.X, want.Y = each.x, each.y
		term.Feed(bytesOf(each.text))
		if got := term.Screen(); !same(got, want) {
			t.Errorf("%q %q: shows %s, want %s", ahead, each.text, drawn(got), drawn(want))
		}
	}
}

// P12.1: up and down, without margins and with them: at their bounds, one beyond, and far beyond.
func TestUpAndDown(t *testing.T) {
	const rows = "ab\r\ncd\r\nef\r\ngh\r\nij\r\nkl"
	tryAt(t, 4, 6, rows+"^[4;3H", []at{
		{"", 2, 3}, {"^[A", 2, 2}, {"^[0A", 2, 2}, {"^[1A", 2, 2}, {"^[2A", 2, 1}, {"^[3A", 2, 0}, {"^[4A", 2, 0}, {"^[9999A", 2, 0}, {"^[;3A", 2, 2}, {"^[2;9A", 2, 1},
		{"^[B", 2, 4}, {"^[0B", 2, 4}, {"^[1B", 2, 4}, {"^[2B", 2, 5}, {"^[3B", 2, 5}, {"^[9999B", 2, 5}, {"^[;2B", 2, 4}, {"^[1;9B", 2, 4},
		{"^[e", 2, 4}, {"^[0e", 2, 4}, {"^[2e", 2, 5}, {"^[3e", 2, 5}, {"^[9999e", 2, 5},
		{"^[E", 0, 4}, {"^[0E", 0, 4}, {"^[2E", 0, 5}, {"^[3E", 0, 5}, {"^[9999E", 0, 5}, {"^[;2E", 0, 4},
		{"^[F", 0, 2}, {"^[0F", 0, 2}, {"^[3F", 0, 0}, {"^[4F", 0, 0}, {"^[9999F", 0, 0}, {"^[;2F", 0, 2},
		{"^[?A^[?2B^[>C^[ D^[!E", 2, 3},
	})
	for y, each := range []struct{ up, farUp, down, farDown int }{{0, 0, 1, 3}, {0, 0, 2, 3}, {2, 2, 3, 3}, {2, 2, 3, 3}, {3, 2, 5, 5}, {4, 2, 5, 5}} {
		place := fmt.Sprintf("^[%d;2H", y+1)
		tryAt(t, 4, 6, rows+"^[3;4r"+place, []at{
			{"^[A", 1, each.up}, {"^[9A", 1, each.farUp}, {"^[9999F", 0, each.farUp}, {"^[F", 0, each.up},
			{"^[B", 1, each.down}, {"^[9B", 1, each.farDown}, {"^[9e", 1, each.farDown}, {"^[E", 0, each.down}, {"^[9999E", 0, each.farDown},
		})
	}
}

// P12.1: right, left and columns.
func TestColumns(t *testing.T) {
	tryAt(t, 5, 2, "ab中c^[2;3H", []at{
		{"", 2, 1}, {"^[C", 3, 1}, {"^[0C", 3, 1}, {"^[2C", 4, 1}, {"^[3C", 4, 1}, {"^[9999C", 4, 1}, {"^[;2C", 3, 1},
		{"^[a", 3, 1}, {"^[0a", 3, 1}, {"^[2a", 4, 1}, {"^[3a", 4, 1}, {"^[9999a", 4, 1},
		{"^[D", 1, 1}, {"^[0D", 1, 1}, {"^[2D", 0, 1}, {"^[3D", 0, 1}, {"^[9999D", 0, 1}, {"^[;2D", 1, 1},
		{"^[G", 0, 1}, {"^[0G", 0, 1}, {"^[1G", 0, 1}, {"^[2G", 1, 1}, {"^[5G", 4, 1}, {"^[6G", 4, 1}, {"^[9999G", 4, 1}, {"^[;2G", 0, 1}, {"^[2;3G", 1, 1},
		{"^[`", 0, 1}, {"^[2`", 1, 1}, {"^[5`", 4, 1}, {"^[6`", 4, 1}, {"^[9999`", 4, 1},
	})
	tryAt(t, 1, 1, "", []at{{"^[C", 0, 0}, {"^[D", 0, 0}, {"^[2G", 0, 0}, {"^[2;2H", 0, 0}, {"^[2d", 0, 0}, {"\t", 0, 0}, {"^[Z", 0, 0}, {"^[2I", 0, 0}})
}

// P12.1: rows and places, without origin and with it.
func TestPlaces(t *testing.T) {
	tryAt(t, 5, 6, "ab^[4;3H", []at{
		{"^[d", 2, 0}, {"^[0d", 2, 0}, {"^[1d", 2, 0}, {"^[2d", 2, 1}, {"^[6d", 2, 5}, {"^[7d", 2, 5}, {"^[9999d", 2, 5}, {"^[;3d", 2, 0}, {"^[3;1d", 2, 2},
		{"^[H", 0, 0}, {"^[0;0H", 0, 0}, {"^[1;1H", 0, 0}, {"^[2H", 0, 1}, {"^[;2H", 1, 0}, {"^[2;H", 0, 1}, {"^[2;3H", 2, 1}, {"^[6;5H", 4, 5}, {"^[7;6H", 4, 5}, {"^[9999;9999H", 4, 5}, {"^[2;3;4H", 2, 1},
		{"^[f", 0, 0}, {"^[2f", 0, 1}, {"^[;2f", 1, 0}, {"^[2;3f", 2, 1}, {"^[7;6f", 4, 5}, {"^[9999;9999f", 4, 5},
	})
	for _, bounds := range []string{"^[2;4r^[?6h", "^[?6h^[2;4r"} {
		tryAt(t, 5, 6, bounds, []at{
			{"", 0, 1},
			{"^[d", 0, 1}, {"^[0d", 0, 1}, {"^[2d", 0, 2}, {"^[3d", 0, 3}, {"^[4d", 0, 3}, {"^[5d", 0, 3}, {"^[9999d", 0, 3},
			{"^[H", 0, 1}, {"^[2;2H", 1, 2}, {"^[3;5H", 4, 3}, {"^[4;6H", 4, 3}, {"^[9999;9999H", 4, 3}, {"^[;2H", 1, 1}, {"^[2;3f", 2, 2}, {"^[4f", 0, 3},
			{"^[2;2H^[?6l", 0, 0}, {"^[?6l^[9999d", 0, 5}, {"^[2;2H^[?6h", 0, 1}, {"^[2;2H^[2;3r", 0, 1}, {"^[3;2H^[3;2r", 1, 3}, {"^[3;2H^[r", 0, 0},
			{"^[3H^[B", 0, 3}, {"^[A", 0, 1},
		})
	}
	// Origin where there are no margins is no odds but for home.
	tryAt(t, 5, 6, "^[3;3H^[?6h", []at{{"", 0, 0}, {"^[9d", 0, 5}, {"^[4;3H", 2, 3}})
}

// moved draws which rows margins hold between them: these go up by one.
func moved(t *testing.T, rows int, text, want string) {
	t.Helper()
	try(t, 1, rows, lettered(rows)+"^[2H"+text+"^[S", want)
}

// P12.1: margins set, refused and as at first; the cursor goes home if they are set, and only then.
func TestMargins(t *testing.T) {
	moved(t, 4, "", "b/c/d/. 0,1")
	moved(t, 4, "^[2;3r", "a/c/./d 0,0")
	moved(t, 4, "^[1;2r", "b/./c/d 0,0")
	moved(t, 4, "^[3;4r", "a/b/d/. 0,0")
	moved(t, 4, "^[2r", "a/c/d/. 0,0")
	moved(t, 4, "^[2;0r", "a/c/d/. 0,0")
	moved(t, 4, "^[;3r", "b/c/./d 0,0")
	moved(t, 4, "^[0;3r", "b/c/./d 0,0")
	moved(t, 4, "^[3;5r", "a/b/d/. 0,0")
	moved(t, 4, "^[3;9999r", "a/b/d/. 0,0")
	moved(t, 4, "^[2;3;1r", "a/c/./d 0,0")
	moved(t, 4, "^[2;3r^[r", "b/c/d/. 0,0")
	moved(t, 4, "^[2;3r^[0;0r", "b/c/d/. 0,0")
	moved(t, 4, "^[2;3r^[1;4r", "b/c/d/. 0,0")
	moved(t, 4, "^[?2;3r^[>2;3r", "b/c/d/. 0,1")
	for _, refused := range []string{"^[2;2r", "^[3;2r", "^[1;1r", "^[4r", "^[4;4r", "^[4;9r", "^[5r", "^[5;9r", "^[9999r", "^[9999;9999r", "^[9999;3r", "^[;1r"} {
		moved(t, 4, refused, "b/c/d/. 0,1")
		moved(t, 4, "^[2;3r^[4H"+refused, "a/c/./d 0,3")
	}
	for _, text := range []string{"^[r", "^[1r", "^[1;1r", "^[1;2r", "^[0;0r", "^[2;2r"} {
		try(t, 2, 1, "ab^[2G"+text, "ab 1,0")
	}
	try(t, 2, 2, "ab^[2;2H^[1;2r", "ab/.. 0,0")
	// They bound what moves, not where the cursor may be put.
	try(t, 1, 4, lettered(4)+"^[2;3r^[4Hx", "a/b/c/x 0,3")
}

// P12.1: the cursor, the pen and the origin, saved and restored, by both ways.
func TestSavedAndRestored(t *testing.T) {
	for _, save := range []string{"^7", "^[s"} {
		for _, restore := range []string{"^8", "^[u"} {
			tryAll(t, 4, 3, "ab", []trial{
				{restore, "ab../..../.... 0,0"},
				{save + "^[3;3H" + restore, "ab../..../.... 2,0"},
				{"^[2;2H" + save + "^[H" + save + "^[3;3H" + restore, "ab../..../.... 0,0"},
				{"^[2;2H" + save + "^[H" + restore + "^[H" + restore, "ab../..../.... 1,1"},
				{"^[41m" + save + "^[42m" + restore + "^[X", "ab2./..../.... 2,0"},
				{"^[41m" + restore + "^[X", ".b../..../.... 0,0"},
				{save + "^[41m" + restore + "^[X", "ab../..../.... 2,0"},
				{"^[?6h^[2;3r" + save + "^[?6l^[3;3H" + restore + "^[d", "ab../..../.... 0,1"},
				{"^[?6h^[2;3r" + restore + "^[d", "ab../..../.... 0,0"},
				{"^[2;3r" + save + "^[?6h" + restore + "^[d", "ab../..../.... 0,0"},
				{"^[?6h" + save + "^[?6l^[2;3r" + restore + "^[9d", "ab../..../.... 0,2"},
			})
			tryAt(t, 3, 2, "^[2;2H"+save+"^[2;3r^[41m^[H^]0;x\x07", []at{{restore, 1, 1}, {"^[!p" + restore, 0, 0}})
		}
	}
	// The link of the pen too.
	try(t, 4, 1, "^]8;;x\x07^7^]8;;y\x07^8a^]8;;\x07b^8c", "cb.. 1,0 links [x]")
	// What is restored is cut to the last column and the last row; what was saved isn't.
	term := fed(t, 9, 5, "^[5;9H^7^[H")
	for _, each := range []struct {
		cols, rows int
		want       string
	}{{4, 3, "..../..../.... 3,2"}, {6, 4, "....../....../....../...... 5,3"}, {9, 1, "......... 8,0"}} {
		if e := term.Resize(each.cols, each.rows); e != 0 {
			t.Fatal(e)
		}
		term.Feed(bytesOf("^8"))
		shows(t, term, fmt.Sprint(each.cols, each.rows), each.want)
	}
	// Whether the row is full, the margins and the modes aren't saved.
	try(t, 3, 2, "abc^7^8d", "abd/... 2,0")
	try(t, 3, 2, "a^7^[4h^8b^[Gc", "cab/... 1,0")
}

// P12.1: tabs, ahead and behind, set and taken away, many times.
func TestTabs(t *testing.T) {
	tryAt(t, 30, 1, "", []at{
		{"\t", 8, 0}, {"\t\t", 16, 0}, {"\t\t\t", 24, 0}, {"\t\t\t\t", 29, 0}, {"\t\t\t\t\t", 29, 0},
		{"^[I", 8, 0}, {"^[0I", 8, 0}, {"^[1I", 8, 0}, {"^[2I", 16, 0}, {"^[3I", 24, 0}, {"^[4I", 29, 0}, {"^[5I", 29, 0}, {"^[9999I", 29, 0}, {"^[;2I", 8, 0},
		{"^[8G\t", 8, 0}, {"^[9G\t", 16, 0}, {"^[10G\t", 16, 0}, {"^[25G\t", 29, 0},
		{"^[30G^[Z", 24, 0}, {"^[30G^[0Z", 24, 0}, {"^[30G^[1Z", 24, 0}, {"^[30G^[2Z", 16, 0}, {"^[30G^[3Z", 8, 0}, {"^[30G^[4Z", 0, 0}, {"^[30G^[9999Z", 0, 0}, {"^[30G^[;2Z", 24, 0},
		{"^[9G^[Z", 0, 0}, {"^[10G^[Z", 8, 0}, {"^[8G^[Z", 0, 0}, {"^[Z", 0, 0}, {"^[25G^[Z", 16, 0}, {"^[26G^[Z", 24, 0},
	})
	tryAt(t, 30, 1, "^[4G^H^[13G^H^[G", []at{
		{"\t", 3, 0}, {"\t\t", 8, 0}, {"\t\t\t", 12, 0}, {"^[4I", 16, 0}, {"^[20G^[Z", 16, 0}, {"^[20G^[2Z", 12, 0}, {"^[20G^[3Z", 8, 0}, {"^[20G^[4Z", 3, 0}, {"^[20G^[5Z", 0, 0},
		{"^[9G^[g^[G^[2I", 12, 0}, {"^[9G^[0g^[G^[2I", 12, 0}, {"^[4G^[g^[G^[I", 8, 0}, {"^[5G^[g^[G^[I", 3, 0},
		{"^[3g\t", 29, 0}, {"^[3g^[30G^[Z", 0, 0}, {"^[3g^[7G^H^[G\t", 6, 0}, {"^[9G^[1g^[2g^[4g^[9999g^[G^[2I", 8, 0}, {"^[9G^[;3g^[G^[I", 3, 0}, {"^[3;0g\t", 29, 0},
		{"^[?3g\t", 3, 0}, {"^#H^[?W\t", 3, 0}, {"^c\t", 8, 0}, {"^[!p\t", 3, 0}, {"^[?47h\t", 3, 0},
	})
	// One at the first place, and one at the last one.
	tryAt(t, 10, 1, "^[3g^H^[10G^H", []at{{"^[Z", 0, 0}, {"^[G\t", 9, 0}, {"^[2Z", 0, 0}})
	tryAt(t, 80, 1, "", []at{{"^[9I", 72, 0}, {"^[10I", 79, 0}, {"^[80G^[Z", 72, 0}, {"^[80G^[9Z", 8, 0}})
	tryAt(t, 8, 1, "", []at{{"\t", 7, 0}})
	tryAt(t, 9, 1, "", []at{{"\t", 8, 0}})
}

// P12.1: home is at the margins with origin, whatever brings the cursor there.
func TestHome(t *testing.T) {
	tryAt(t, 3, 4, "^[3;3H", []at{
		{"^[?6h", 0, 0}, {"^[?6l", 0, 0}, {"^[2;3r", 0, 0}, {"^[?6h^[2;3r", 0, 1}, {"^[2;3r^[?6h", 0, 1}, {"^[2;3r^[?6h^[3;2H^[?6;6h", 0, 1},
		{"^[2;3r^[?6h^[?6l", 0, 0}, {"^[2;3r^[?6h^[r", 0, 0}, {"^[2;4r^[?6h^[3;4r", 0, 2}, {"^[?25;6h", 0, 0}, {"^[?25h", 2, 2},
	})
}
