package emul_test

import (
	"fmt"
	"math"
	"strings"
	"testing"

	"spyglass/api"
	"spyglass/emul"
)

// sizes are numbers of columns or rows around the bounds, and far beyond.
func sizes(most int) []int {
	l := []int{math.MinInt, math.MinInt32, -most, most + 1, most + 2, 255, 256, 257, 65536 + 1, 1<<32 + 1, math.MaxInt32, math.MaxInt}
	for n := -2; n <= most; n++ {
		l = append(l, n)
	}
	return l
}

// sizeMay tells whether a terminal may have a size.
func sizeMay(cols, rows int) bool {
	return cols >= 1 && cols <= mostCols && rows >= 1 && rows <= mostRows
}

// empty is what a new terminal of a size shows.
func empty(cols, rows int) api.Screen {
	s := api.Screen{Cols: cols, Rows: rows}
	for range cols * rows {
		s.Cells = append(s.Cells, api.Cell{Rune: ' '})
	}
	return s
}

// P12.1, R5: New at all bounds and beyond.
func TestNewSizes(t *testing.T) {
	for _, cols := range sizes(mostCols) {
		for _, rows := range sizes(mostRows) {
			term, e := emul.New(cols, rows)
			if !sizeMay(cols, rows) {
				if term != nil || e != api.ErrArg {
					t.Fatalf("New(%d, %d) = %v, %d", cols, rows, term, e)
				}
				continue
			}
			if e != api.OK || !same(term.Screen(), empty(cols, rows)) {
				t.Fatalf("New(%d, %d): %d, %s", cols, rows, e, drawn(term.Screen()))
			}
			right(t, term.Screen(), fmt.Sprint(cols, rows))
		}
	}
}

// P12.1, R6: Resize at all bounds and beyond; where it is refused nothing is changed.
func TestResizeSizes(t *testing.T) {
	const ahead = "ab中^[2;3r^[4h^[41m^[2;2H^H^7^[3G"
	term, want := fed(t, 5, 3, ahead), fed(t, 5, 3, ahead).Screen()
	for _, cols := range sizes(mostCols) {
		for _, rows := range sizes(mostRows) {
			if sizeMay(cols, rows) {
				continue
			}
			if e := term.Resize(cols, rows); e != api.ErrArg || !same(term.Screen(), want) {
				t.Fatalf("Resize(%d, %d) = %d, %s", cols, rows, e, drawn(term.Screen()))
			}
		}
	}
	// Margins, tabs and a full row are there still.
	if e := term.Resize(0, 3); e != api.ErrArg {
		t.Error(e)
	}
	term.Feed(bytesOf("^[3;1H\n^[G\t^[l^[4lx"))
	shows(t, term, "behind refused sizes", "ab中~./...../2x222 2,2")
	term = fed(t, 3, 2, "abc")
	if e := term.Resize(3, 25); e != api.ErrArg {
		t.Error(e)
	}
	term.Feed([]byte("d"))
	shows(t, term, "behind a refused size", "abc/d.. 1,1")
	for cols := 1; cols <= mostCols; cols++ {
		for rows := 1; rows <= mostRows; rows++ {
			term := newTerm(t, 1+cols%7, 1+rows%5)
			if e := term.Resize(cols, rows); e != api.OK || !same(term.Screen(), empty(cols, rows)) {
				t.Fatalf("Resize(%d, %d): %d, %s", cols, rows, e, drawn(term.Screen()))
			}
		}
	}
}

// resized is a terminal that was fed with a text, and has another size then.
func resized(t *testing.T, cols, rows int, text string, toCols, toRows int) *emul.Term {
	t.Helper()
	term := fed(t, cols, rows, text)
	if e := term.Resize(toCols, toRows); e != 0 {
		t.Fatalf("Resize(%d, %d) = %d", toCols, toRows, e)
	}
	return term
}

// P12.1: Resize to less and to more: what is kept, where the cursor goes, wide letters that are cut, and what is as in a new terminal.
func TestResize(t *testing.T) {
	for _, each := range []struct {
		text       string
		cols, rows int
		then, want string
	}{
		{"", 4, 3, "", "ab中~/c字~d/efgh 3,2"},
		{"", 3, 3, "", "ab./c字~/efg 2,2"},
		{"", 2, 3, "", "ab/c./ef 1,2"},
		{"", 4, 2, "", "ab中~/c字~d 3,1"},
		{"", 1, 1, "", "a 0,0"},
		{"", 6, 4, "", "ab中~../c字~d../efgh../...... 3,2"},
		{"^[41m", 6, 4, "", "ab中~../c字~d../efgh../...... 3,2"},
		{"^[2;2H", 6, 4, "", "ab中~../c字~d../efgh../...... 1,1"},
		{"^[2;2H", 2, 2, "", "ab/c. 1,1"},
		{"^[2;2H", 1, 2, "", "a/c 0,1"},
		{"^[2;3H", 2, 1, "", "ab 1,0"},
		// The row isn't full any more, be the size the same.
		{"", 4, 3, "x", "ab中~/c字~d/efgx 3,2"},
		{"", 5, 3, "x", "ab中~./c字~d./efgx. 4,2"},
		{"", 4, 4, "x", "ab中~/c字~d/efgx/.... 3,2"},
		// Margins.
		{"^[2;3r", 4, 3, "^[S", "c字~d/efgh/.... 0,0"},
		{"^[1;2r", 4, 4, "^[S", "c字~d/efgh/..../.... 0,0"},
		{"^[1;2r", 4, 2, "^[S", "c字~d/.... 0,0"},
		{"^[2;3r^[?6h", 4, 4, "^[d^[S", "c字~d/efgh/..../.... 0,0"},
		{"^[2;3r^[?6h", 4, 4, "^[2;3r^[3H", "ab中~/c字~d/efgh/.... 0,2"},
		// Tabs.
		{"^[2G^H^[G", 4, 3, "\t", "ab中~/c字~d/efgh 3,2"},
		{"^[2G^H^[G", 9, 3, "\t", "ab中~...../c字~d...../efgh..... 8,2"},
		{"^[3g^[G", 20, 1, "\t", "ab中~................ 8,0"},
		{"^[3g^[G", 20, 1, "\t\t\t", "ab中~................ 19,0"},
		// What else there is stays: modes, the pen, what is saved, the title.
		{"^[4h^[H", 5, 1, "x", "xab中~ 1,0"},
		{"^[?7l^[H", 2, 1, "xyz", "xz 1,0"},
		{"^[42m^[H", 5, 1, "^[K", "33333 0,0"},
		{"^[2;2H^7^[H", 5, 3, "^8", "ab中~./c字~d./efgh. 1,1"},
		{"^[3;4H^7^[H", 2, 2, "^8", "ab/c. 1,1"},
		{"^[?25l^[?1003h^]0;t\x07^[H", 2, 1, "", "ab 0,0 hidden mouse 2 title t"},
		{"^[H^[4D", 2, 1, "^[b", "hb 1,0"},
	} {
		term := resized(t, 4, 3, "ab中c字defgh"+each.text, each.cols, each.rows)
		term.Feed(bytesOf(each.then))
		shows(t, term, fmt.Sprint(each), each.want)
	}
	// A wide letter that is cut becomes a blank of its pen.
	shows(t, resized(t, 4, 1, "^[44m^]8;;x\x07ab中", 3, 1), "cut", "ab5 2,0 links [x]")
	shows(t, resized(t, 2, 1, "^[44m^]8;;x\x07中", 1, 1), "cut", "5 0,0")
}

// P12.1: Resize has to do with both grids, whichever is shown.
func TestResizeOther(t *testing.T) {
	term := resized(t, 4, 2, "ab中^[2Hcd^[?47h^[Hx字y", 3, 3)
	shows(t, term, "the other one", "x字~/.../... 2,0")
	term.Feed(bytesOf("^[?47l"))
	shows(t, term, "the main one", "ab./cd./... 2,0")
	term.Feed(bytesOf("^[?47h"))
	shows(t, term, "the other one, again", ".../.../... 2,0")
	term = resized(t, 4, 2, "ab^[?47hxy^[?47l", 2, 1)
	shows(t, term, "the main one, shown", "ab 1,0")
	term.Feed(bytesOf("^[?47hz"))
	shows(t, term, "and the other one", ".z 1,0")
	// What is gone leads nowhere: there is room for another link.
	for _, other := range []string{"", "^[?47l"} {
		ahead := "^[?47h" + sixteen() + other
		term = resized(t, 20, 1, ahead, 15, 1)
		term.Feed(bytesOf(link("q") + "^[Gq"))
		if s := term.Screen(); s.Cells[0].Pen.Link != 1 || s.Links[0] != "q" {
			t.Errorf("%q: %s", other, drawn(s))
		}
	}
}

// P12.1: sizes in any order, against the model.
func TestAnySizes(t *testing.T) {
	t.Parallel()
	roll := rolls(5)
	for range rounds(400) {
		b := newBoth(t, 1+roll(9), 1+roll(5))
		for range 20 {
			b.feed(strings.Repeat("^[41mab中^[44m字^[?47h"+link("x")+"国c"+link("")+"^[?47l", 1+roll(2)))
			b.resize(1+roll(12), 1+roll(6))
			b.feed([]string{"^[?47h", "^[S", "^8", "^7", "\t", "^[2;3r", "q", "^[9;9H"}[roll(8)])
		}
	}
}
