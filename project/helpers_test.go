package project_test

import (
	"fmt"
	"math"
	"slices"
	"strings"
	"testing"

	"spyglass/api"
	"spyglass/color"
	"spyglass/emul"
	"spyglass/project"
)

const (
	// The features, as chapter 14 tells them, and all bits that no feature has.
	fColor, fTrue, fWide, fLink, fTitle, fMouse = 1, 2, 4, 8, 16, 32
	fAll                                        = 63
	strange                                     = math.MaxUint32 - fAll
	// rgb is what a colour of three parts has more, and lastRgb the last one of them.
	rgb     = 1 << 24
	lastRgb = rgb + 0xFFFFFF
	// The greatest grid.
	mostCols, mostRows = 80, 24
	mostLinks          = 16
)

// rolls answers numbers that look like none in particular, the same ones each time.
func rolls(seed uint64) func(below int) int {
	return func(below int) int {
		seed = seed*6364136223846793005 + 1442695040888963407
		return int((seed >> 33) % uint64(below))
	}
}

// same tells whether two screens are the same.
func same(a, b api.Screen) bool {
	return a.Cols == b.Cols && a.Rows == b.Rows && slices.Equal(a.Cells, b.Cells) && a.X == b.X && a.Y == b.Y &&
		a.Hidden == b.Hidden && a.Mouse == b.Mouse && a.Title == b.Title && slices.Equal(a.Links, b.Links)
}

// zero tells whether a screen is the zero one, its lists nil or empty.
func zero(s api.Screen) bool { return same(s, api.Screen{}) }

// clone is a screen that shares nothing with another one.
func clone(s api.Screen) api.Screen {
	s.Cells, s.Links = slices.Clone(s.Cells), slices.Clone(s.Links)
	return s
}

// drawn draws a screen: its rows, with strokes between, a W and a tilde for the halves of a wide letter, and a dot for a blank; then each pen that isn't zero, behind its place; the cursor; and what else isn't zero.
func drawn(s api.Screen) string {
	var b, pens strings.Builder
	for i, c := range s.Cells {
		if i > 0 && s.Cols > 0 && i%s.Cols == 0 {
			b.WriteByte('/')
		}
		switch {
		case c.Wide == 1:
			b.WriteByte('W')
		case c.Wide == 2:
			b.WriteByte('~')
		case c.Rune == ' ':
			b.WriteByte('.')
		default:
			b.WriteRune(c.Rune)
		}
		if c.Pen != (api.Pen{}) {
			fmt.Fprintf(&pens, " %d:%d,%d,%d,%d", i, c.Pen.Fg, c.Pen.Bg, c.Pen.Attrs, c.Pen.Link)
		}
	}
	fmt.Fprintf(&b, "%s at %d,%d", pens.String(), s.X, s.Y)
	if s.Hidden {
		b.WriteString(" hidden")
	}
	if s.Mouse != 0 {
		fmt.Fprintf(&b, " mouse %d", s.Mouse)
	}
	if s.Title != "" {
		fmt.Fprintf(&b, " title %s", s.Title)
	}
	if len(s.Links) > 0 {
		fmt.Fprintf(&b, " links %v", s.Links)
	}
	return b.String()
}

// The model: it takes the words of the chapter one by one.

// without tells whether a feature, told by its bit's number, isn't among some.
func without(features uint32, bit int) bool { return features>>bit%2 == 0 }

// modelScreen is what Screen has to answer.
func modelScreen(s api.Screen, features uint32) api.Screen {
	if !emul.Right(s) {
		return api.Screen{}
	}
	want := api.Screen{Cols: s.Cols, Rows: s.Rows, X: s.X, Y: s.Y, Hidden: s.Hidden}
	for _, c := range s.Cells {
		d := api.Cell{Rune: c.Rune, Wide: c.Wide}
		if without(features, 2) && c.Wide == 1 {
			d = api.Cell{Rune: 63}
		}
		if without(features, 2) && c.Wide == 2 {
			d = api.Cell{Rune: 32}
		}
		d.Pen.Fg = color.Fit(c.Pen.Fg, features)
		d.Pen.Bg = color.Fit(c.Pen.Bg, features)
		d.Pen.Attrs = c.Pen.Attrs
		if !without(features, 3) {
			d.Pen.Link = c.Pen.Link
		}
		want.Cells = append(want.Cells, d)
	}
	if !without(features, 3) {
		want.Links = append(want.Links, s.Links...)
	}
	if !without(features, 4) {
		want.Title = s.Title
	}
	if !without(features, 5) {
		want.Mouse = s.Mouse
	}
	return want
}

// Screens that tests are made of.

// letters are rows of cells with the zero pen, told by a text: a W is 0x4E00, which takes two columns, and no tilde stands for its right half.
func letters(text string) []api.Cell {
	var l []api.Cell
	for _, r := range text {
		if r == 'W' {
			l = append(l, api.Cell{Rune: 0x4E00, Wide: 1}, api.Cell{Wide: 2})
			continue
		}
		l = append(l, api.Cell{Rune: r})
	}
	return l
}

// screen is one of so many columns and rows, of letters with the zero pen.
func screen(cols, rows int, text string) api.Screen {
	return api.Screen{Cols: cols, Rows: rows, Cells: letters(text)}
}

// wide is a wide letter, both of whose halves have a pen.
func wide(r rune, p api.Pen) []api.Cell {
	return []api.Cell{{Rune: r, Wide: 1, Pen: p}, {Wide: 2, Pen: p}}
}

// someScreen is one that may be, with everything: wide letters at both ends of rows and side by side, colours of all kinds, links at narrow and at wide letters, a title, a mouse, a hidden cursor.
func someScreen() api.Screen {
	one, two := api.Pen{Fg: rgb + 255, Bg: 22, Attrs: 1, Link: 1}, api.Pen{Fg: 256, Bg: rgb, Attrs: 130, Link: 2}
	var l []api.Cell
	l = append(l, wide(0x4E00, one)...)
	l = append(l, wide(0x4E00, one)...)
	l = append(l, wide(0xAC00, two)...)
	l = append(l, api.Cell{Rune: 'a', Pen: one}, api.Cell{Rune: ' ', Pen: api.Pen{Bg: 17}}, api.Cell{Rune: '?', Pen: two})
	l = append(l, wide(0x4E00, api.Pen{Fg: 16, Bg: 1, Link: 2})...)
	l = append(l, api.Cell{Rune: 0x20AC, Pen: api.Pen{Link: 3}})
	return api.Screen{Cols: 6, Rows: 2, Cells: l, X: 5, Y: 1, Hidden: true, Mouse: 2, Title: "tü中", Links: []string{"x", "y", "http://z"}}
}

// palette are colours of every kind that may be: those at which something begins or ends, and what lies between.
func palette() []api.Color {
	return []api.Color{0, 1, 2, 8, 9, 15, 16, 17, 18, 22, 100, 231, 232, 233, 255, 256, rgb, rgb + 1, rgb + 255, rgb + 0x123456, rgb + 0x808080, lastRgb - 1, lastRgb}
}

// anyPen is a pen that may be, with a link's number below so many.
func anyPen(roll func(int) int, links int) api.Pen {
	colour := func() api.Color {
		if roll(8) == 0 {
			return api.Color(rgb + roll(rgb))
		}
		return palette()[roll(len(palette()))]
	}
	return api.Pen{Fg: colour(), Bg: colour(), Attrs: uint8(roll(256)), Link: uint16(roll(links))}
}

// anyRow is a row that may be, but for its links' numbers, which are below so many.
func anyRow(roll func(int) int, cols, links int) []api.Cell {
	var l []api.Cell
	var p api.Pen
	for len(l) < cols {
		if roll(3) == 0 {
			p = anyPen(roll, links)
		}
		if roll(3) == 0 && len(l)+2 <= cols {
			l = append(l, wide([]rune{0x4E00, 0xAC00, 0x1100, 0x1F600}[roll(4)], p)...)
			continue
		}
		l = append(l, api.Cell{Rune: []rune{'a', ' ', '?', 0xE9, 0x20AC, 0xFFFD}[roll(6)], Pen: p})
	}
	return l
}

// inOrder has the links of cells stand in order, by numbers given as they come, and none above the most.
func inOrder(cells []api.Cell) (links []string) {
	numbers := map[uint16]uint16{0: 0}
	for i := range cells {
		p := &cells[i].Pen
		n, ok := numbers[p.Link]
		if !ok && len(links) < mostLinks {
			links = append(links, fmt.Sprint("link:", p.Link))
			n = uint16(len(links))
			numbers[p.Link] = n
		}
		p.Link = n
	}
	return links
}

// anyScreen is one that may be.
func anyScreen(roll func(int) int) api.Screen {
	s := api.Screen{Cols: 1 + roll(12), Rows: 1 + roll(5)}
	if roll(30) == 0 {
		s.Cols, s.Rows = 1+roll(mostCols), 1+roll(mostRows)
	}
	links := 1 + roll(20)
	for range s.Rows {
		s.Cells = append(s.Cells, anyRow(roll, s.Cols, links)...)
	}
	s.Links = inOrder(s.Cells)
	s.X, s.Y = roll(s.Cols), roll(s.Rows)
	s.Hidden, s.Mouse = roll(2) == 0, uint8(roll(3))
	s.Title = []string{"", "t", "tü中", "a ?", strings.Repeat("x", 64)}[roll(5)]
	return s
}

// some are screens that may be: one with everything, those of terminals, and any.
func some(t *testing.T, n int) []api.Screen {
	t.Helper()
	l := []api.Screen{someScreen(), screen(1, 1, "a"), screen(2, 1, "W"), screen(2, 2, "WW"), screen(80, 24, strings.Repeat("W", 80*24/2))}
	roll := rolls(15)
	for range n {
		l = append(l, anyScreen(roll))
	}
	for _, text := range []string{"", "abc", "a中\x1b[31;48;2;1;2;3mb\x1b]8;;x\x07字c\x1b]0;title\x07\x1b[?1003h\x1b[?25l"} {
		term, e := emul.New(7, 3)
		if e != 0 {
			t.Fatal("no terminal")
		}
		term.Feed([]byte(text))
		l = append(l, term.Screen())
	}
	for i, s := range l {
		if !emul.Right(s) {
			t.Fatal("the screen", i, "may not be:", drawn(s))
		}
	}
	return l
}

// features are all sets of them, and sets with bits that no feature has.
func features() []uint32 {
	var l []uint32
	for f := range uint32(fAll + 1) {
		l = append(l, f)
	}
	for bit := uint32(64); bit != 0; bit <<= 1 {
		l = append(l, bit, bit+fAll, bit+21, bit+42)
	}
	for f := range uint32(fAll + 1) {
		l = append(l, strange+f)
	}
	return l
}

// try has Screen answer what is wanted, as it is drawn.
func try(t *testing.T, s api.Screen, features uint32, want string) {
	t.Helper()
	if !emul.Right(s) {
		t.Fatal("may not be:", drawn(s))
	}
	if got := drawn(project.Screen(s, features)); got != want {
		t.Errorf("%s by %d: %s, and not %s", drawn(s), features, got, want)
	}
}
