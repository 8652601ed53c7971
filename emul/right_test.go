package emul_test

import (
	"math"
	"strings"
	"testing"

	"spyglass/api"
	"spyglass/emul"
)

// someScreen is a screen that may be, with everything: three rows of four columns, wide letters, links, a title.
func someScreen(t *testing.T) api.Screen {
	t.Helper()
	s := fed(t, 4, 3, "^]0;tü中\x07^[?1003h"+link("x")+"ab中^[31;48;2;1;2;3m"+link("y")+"c字"+link("")+"^[2;2H").Screen()
	right(t, s, "some screen")
	return s
}

// P12.1: Right of the screen of terminals, and of the zero one.
func TestRightOfTerminals(t *testing.T) {
	for cols := 1; cols <= mostCols; cols++ {
		for _, rows := range []int{1, 2, 23, 24} {
			if !emul.Right(empty(cols, rows)) || !emul.Right(newTerm(t, cols, rows).Screen()) {
				t.Errorf("a new terminal of %d %d isn't right", cols, rows)
			}
		}
	}
	if emul.Right(api.Screen{}) {
		t.Error("the zero screen is right")
	}
}

// altered is some screen with one thing changed, and whether it may be.
type altered struct {
	name   string
	change func(s *api.Screen)
	want   bool
}

// tryRight has Right answer what is wanted of each.
func tryRight(t *testing.T, screens []altered) {
	t.Helper()
	for _, each := range screens {
		s := someScreen(t)
		each.change(&s)
		if got := emul.Right(s); got != each.want {
			t.Errorf("%s: Right answers %v: %+v", each.name, got, s)
		}
	}
}

// P12.1: Right where the cursor, and the mouse alone is changed: at each bound, and one beyond.
func TestRightCursor(t *testing.T) {
	tryRight(t, []altered{
		{"nothing", func(s *api.Screen) {}, true},
		{"X 0", func(s *api.Screen) { s.X = 0 }, true},
		{"X 3", func(s *api.Screen) { s.X = 3 }, true},
		{"X 4", func(s *api.Screen) { s.X = 4 }, false},
		{"X 5", func(s *api.Screen) { s.X = 5 }, false},
		{"X -1", func(s *api.Screen) { s.X = -1 }, false},
		{"X least", func(s *api.Screen) { s.X = math.MinInt }, false},
		{"X most", func(s *api.Screen) { s.X = math.MaxInt }, false},
		{"Y 0", func(s *api.Screen) { s.Y = 0 }, true},
		{"Y 2", func(s *api.Screen) { s.Y = 2 }, true},
		{"Y 3", func(s *api.Screen) { s.Y = 3 }, false},
		{"Y 4", func(s *api.Screen) { s.Y = 4 }, false},
		{"Y -1", func(s *api.Screen) { s.Y = -1 }, false},
		{"Y least", func(s *api.Screen) { s.Y = math.MinInt }, false},
		{"Y most", func(s *api.Screen) { s.Y = math.MaxInt }, false},
		{"hidden", func(s *api.Screen) { s.Hidden = true }, true},
		{"mouse 0", func(s *api.Screen) { s.Mouse = 0 }, true},
		{"mouse 1", func(s *api.Screen) { s.Mouse = 1 }, true},
		{"mouse 2", func(s *api.Screen) { s.Mouse = 2 }, true},
		{"mouse 3", func(s *api.Screen) { s.Mouse = 3 }, false},
		{"mouse 255", func(s *api.Screen) { s.Mouse = 255 }, false},
	})
}

// P12.1: Right where the title alone is changed: at each bound, and one beyond.
func TestRightTitle(t *testing.T) {
	tryRight(t, []altered{
		{"no title", func(s *api.Screen) { s.Title = "" }, true},
		{"title of 64", func(s *api.Screen) { s.Title = strings.Repeat("a", 64) }, true},
		{"title of 65", func(s *api.Screen) { s.Title = strings.Repeat("a", 65) }, false},
		{"title of 63, wide", func(s *api.Screen) { s.Title = strings.Repeat("中", 21) }, true},
		{"title of 64, wide", func(s *api.Screen) { s.Title = strings.Repeat("中", 21) + "a" }, true},
		{"title of 65, wide", func(s *api.Screen) { s.Title = strings.Repeat("中", 21) + "é" }, false},
		{"title of 66, wide", func(s *api.Screen) { s.Title = strings.Repeat("中", 22) }, false},
		{"title of no Width", func(s *api.Screen) { s.Title = "\u0301" }, false},
		{"title with no Width", func(s *api.Screen) { s.Title = "a\u0301b" }, false},
		{"title with a control byte", func(s *api.Screen) { s.Title = "a\x07" }, false},
		{"title with 0", func(s *api.Screen) { s.Title = "\x00a" }, false},
		{"title with 127", func(s *api.Screen) { s.Title = "\x7f" }, false},
		{"title with 0x9F", func(s *api.Screen) { s.Title = "a\u009f" }, false},
		{"title with a broken letter", func(s *api.Screen) { s.Title = "a\xe2\x82" }, false},
		{"title with a byte of none", func(s *api.Screen) { s.Title = "\xffa" }, false},
		{"title with a surrogate", func(s *api.Screen) { s.Title = "\xed\xa0\x80" }, false},
		{"title with a long form", func(s *api.Screen) { s.Title = "\xc1\x81" }, false},
		{"title of 0xFFFD", func(s *api.Screen) { s.Title = "\uFFFD" }, true},
		{"title of blanks", func(s *api.Screen) { s.Title = "  " }, true},
	})
}

// P12.1: Right where the size alone is changed: at each bound, and one beyond.
func TestRightSize(t *testing.T) {
	tryRight(t, []altered{
		{"Cols 0", func(s *api.Screen) { s.Cols = 0 }, false},
		{"Cols -4", func(s *api.Screen) { s.Cols = -4 }, false},
		{"Cols 3", func(s *api.Screen) { s.Cols = 3 }, false},
		{"Cols 5", func(s *api.Screen) { s.Cols = 5 }, false},
		{"Rows 0", func(s *api.Screen) { s.Rows = 0 }, false},
		{"Rows -3", func(s *api.Screen) { s.Rows = -3 }, false},
		{"Rows 2", func(s *api.Screen) { s.Rows = 2 }, false},
		{"Rows 4", func(s *api.Screen) { s.Rows = 4 }, false},
		{"both turned", func(s *api.Screen) { s.Cols, s.Rows = -4, -3 }, false},
		{"other rows", func(s *api.Screen) { s.Cols, s.Rows, s.X, s.Y = 3, 4, 0, 0 }, false},
		{"no cells", func(s *api.Screen) { s.Cells, s.Links = nil, nil }, false},
		{"a cell less", func(s *api.Screen) { s.Cells = s.Cells[:11] }, false},
		{"a cell more", func(s *api.Screen) { s.Cells = append(s.Cells, api.Cell{Rune: ' '}) }, false},
	})
}

// P12.1: Right where a cell alone is changed: at each bound, and one beyond.
func TestRightCells(t *testing.T) {
	tryRight(t, []altered{
		{"a rune of no Width", func(s *api.Screen) { s.Cells[0].Rune = 0x301 }, false},
		{"a wide rune, narrow", func(s *api.Screen) { s.Cells[0].Rune = 0x4E00 }, false},
		{"a rune that is none", func(s *api.Screen) { s.Cells[0].Rune = -1 }, false},
		{"no rune", func(s *api.Screen) { s.Cells[0].Rune = 0 }, false},
		{"Wide 3", func(s *api.Screen) { s.Cells[0].Wide = 3 }, false},
		{"a right half alone", func(s *api.Screen) { s.Cells[0] = api.Cell{Wide: 2, Pen: s.Cells[0].Pen} }, false},
		{"a left half alone", func(s *api.Screen) { s.Cells[3] = api.Cell{Rune: ' ', Pen: s.Cells[3].Pen} }, false},
		{"halves of two pens", func(s *api.Screen) { s.Cells[3].Pen.Attrs = 1 }, false},
		{"halves of two links", func(s *api.Screen) { s.Cells[3].Pen.Link = 0 }, false},
		{"a right half with a rune", func(s *api.Screen) { s.Cells[3].Rune = ' ' }, false},
		{"halves on two rows", func(s *api.Screen) {
			s.Cells[3], s.Cells[4] = api.Cell{Rune: 0x4E00, Wide: 1, Pen: s.Cells[3].Pen}, api.Cell{Wide: 2, Pen: s.Cells[3].Pen}
			s.Cells[2] = api.Cell{Rune: ' ', Pen: s.Cells[3].Pen}
		}, false},
		{"a colour 256", func(s *api.Screen) { s.Cells[0].Pen.Fg, s.Cells[1].Pen.Bg = 256, 256 }, true},
		{"a colour 257", func(s *api.Screen) { s.Cells[0].Pen.Fg = 257 }, false},
		{"a Bg 257", func(s *api.Screen) { s.Cells[0].Pen.Bg = 257 }, false},
		{"a colour below rgb", func(s *api.Screen) { s.Cells[0].Pen.Bg = rgb - 1 }, false},
		{"the greatest colour", func(s *api.Screen) { s.Cells[0].Pen.Bg = 2*rgb - 1 }, true},
		{"a colour above", func(s *api.Screen) { s.Cells[0].Pen.Bg = 2 * rgb }, false},
		{"other attrs", func(s *api.Screen) { s.Cells[0].Pen.Attrs = 255 }, true},
	})
}

// P12.1: Right where the links alone is changed: at each bound, and one beyond.
func TestRightLinks(t *testing.T) {
	tryRight(t, []altered{
		{"links the other way", func(s *api.Screen) { s.Links[0], s.Links[1] = s.Links[1], s.Links[0] }, true},
		{"numbers the other way", func(s *api.Screen) { s.Cells[0].Pen.Link = 2 }, false},
		{"a number beyond", func(s *api.Screen) { s.Cells[11].Pen.Link = 3 }, false},
		{"a link more", func(s *api.Screen) { s.Links = append(s.Links, "z") }, false},
		{"a link more, with its cell", func(s *api.Screen) { s.Links = append(s.Links, "z"); s.Cells[11].Pen.Link = 3 }, true},
		{"a link less", func(s *api.Screen) { s.Links = s.Links[:1] }, false},
		{"no links", func(s *api.Screen) { s.Links = nil }, false},
		{"a link twice", func(s *api.Screen) { s.Links[1] = "x" }, false},
		{"an empty link", func(s *api.Screen) { s.Links[1] = "" }, false},
		{"a link with a blank", func(s *api.Screen) { s.Links[1] = "a b" }, false},
		{"a link of 64", func(s *api.Screen) { s.Links[1] = strings.Repeat("a", 64) }, true},
		{"a link of 65", func(s *api.Screen) { s.Links[1] = strings.Repeat("a", 65) }, false},
	})
}

// P12.1: Right of screens at the bounds of sizes, and of links.
func TestRightBounds(t *testing.T) {
	for _, cols := range sizes(mostCols) {
		for _, rows := range sizes(mostRows) {
			s := api.Screen{Cols: cols, Rows: rows}
			if cols >= 1 && cols <= 255 && rows >= 1 && rows <= 255 {
				s = empty(cols, rows)
			}
			if got := emul.Right(s); got != sizeMay(cols, rows) {
				t.Fatalf("Right of %d %d answers %v", cols, rows, got)
			}
		}
	}
	for n := range 20 {
		s := empty(20, 1)
		for i := range n {
			s.Cells[i].Pen.Link = uint16(i + 1)
			s.Links = append(s.Links, letter(i))
		}
		if got := emul.Right(s); got != (n <= mostLinks) {
			t.Errorf("Right of %d links answers %v", n, got)
		}
	}
	// R4: no links, be they nil or not.
	s := empty(2, 1)
	if s.Links = []string{}; !emul.Right(s) {
		t.Error("Right of a list of no links answers false")
	}
	if s.Cells = []api.Cell{}; emul.Right(s) {
		t.Error("Right of a list of no cells answers true")
	}
}
