package rows_test

import (
	"fmt"
	"math"
	"slices"
	"strings"
	"testing"

	"spyglass/api"
	"spyglass/cell"
	"spyglass/emul"
	"spyglass/rows"
)

const (
	// The errors, as DOC.md tells them.
	ok       api.Errno = 0
	errArg   api.Errno = 1
	errShort api.Errno = 2
	errForm  api.Errno = 3
	errRest  api.Errno = 6
	errBase  api.Errno = 15
	// rgb is what a colour of three parts has more.
	rgb = 1 << 24
	// The greatest grid.
	mostCols, mostRows = 80, 24
	// The flags.
	hidden, titled, fromBlank = 1, 2, 4
)

// rolls answers numbers that look like none in particular, the same ones each time.
func rolls(seed uint64) func(below int) int {
	return func(below int) int {
		seed = seed*6364136223846793005 + 1442695040888963407
		return int((seed >> 33) % uint64(below))
	}
}

// same tells whether two screens are the same.
func same(a, b api.Screen) bool {
	return a.Cols == b.Cols && a.Rows == b.Rows && slices.Equal(a.Cells, b.Cells) && a.X == b.X && a.Y == b.Y &&
		a.Hidden == b.Hidden && a.Mouse == b.Mouse && a.Title == b.Title && slices.Equal(a.Links, b.Links)
}

// zero tells whether a screen is the zero one, its lists nil or empty.
func zero(s api.Screen) bool { return same(s, api.Screen{}) }

// clone is a screen that shares nothing with another one.
func clone(s api.Screen) api.Screen {
	s.Cells, s.Links = slices.Clone(s.Cells), slices.Clone(s.Links)
	return s
}

// drawn draws a screen: its size; its rows, with strokes between and dots for blanks; the places of up to three pens that aren't zero; the cursor; and what else isn't zero.
func drawn(s api.Screen) string {
	var b, pens strings.Builder
	fmt.Fprintf(&b, "%dx%d ", s.Cols, s.Rows)
	left := 3
	for i, c := range s.Cells[:min(len(s.Cells), 200)] {
		if i > 0 && s.Cols > 0 && i%s.Cols == 0 {
			b.WriteByte('/')
		}
		if c == (api.Cell{Rune: ' '}) {
			b.WriteByte('.')
			continue
		}
		fmt.Fprintf(&b, "%c", c.Rune)
		if (c.Pen != (api.Pen{}) || c.Wide != 0) && left > 0 {
			left--
			fmt.Fprintf(&pens, " %d:%d,%+v", i, c.Wide, c.Pen)
		}
	}
	fmt.Fprintf(&b, "%s at %d,%d", pens.String(), s.X, s.Y)
	if s.Hidden {
		b.WriteString(" hidden")
	}
	if s.Mouse != 0 || s.Title != "" || len(s.Links) > 0 {
		fmt.Fprintf(&b, " mouse %d title %q links %q", s.Mouse, s.Title, s.Links)
	}
	return b.String()
}

// Screens that tests are made of.

// letters are cells of the zero pen; a dot is a blank.
func letters(text string) []api.Cell {
	var l []api.Cell
	for _, r := range strings.ReplaceAll(text, ".", " ") {
		l = append(l, api.Cell{Rune: r})
	}
	return l
}

// screen is one of so many columns, by its letters.
func screen(cols int, text string) api.Screen {
	l := letters(text)
	return api.Screen{Cols: cols, Rows: len(l) / cols, Cells: l}
}

// blank is a screen of blanks.
func blank(cols, rows int) api.Screen {
	return api.Screen{Cols: cols, Rows: rows, Cells: slices.Repeat(letters("."), cols*rows)}
}

// someScreen is one that fits, with everything: colours at their bounds, all attributes, letters of one to three bytes, a title, a hidden cursor.
func someScreen() api.Screen {
	s := screen(4, "ab..é€.c....")
	s.Cells[1].Pen = api.Pen{Fg: 256, Bg: 255, Attrs: 255}
	s.Cells[2].Pen = api.Pen{Fg: 1, Bg: 256, Attrs: 1}
	s.Cells[5].Pen = api.Pen{Bg: 9, Attrs: 128}
	s.X, s.Y, s.Hidden, s.Title = 3, 1, true, "tü中"
	return s
}

// titles are some that a screen may have: empty, of one byte, of 64, of letters of all lengths.
func titles() []string {
	return []string{"", "t", "u", "tü中", strings.Repeat("x", 64), strings.Repeat("中", 21) + "a", "\U0001F600 \uFFFD"}
}

// anyCell is a cell that the first version can tell.
func anyCell(roll func(int) int) api.Cell {
	c := api.Cell{Rune: []rune{' ', ' ', 'a', 'b', 0xE9, 0x20AC, 0xFFFD, 0x10280}[roll(8)]}
	if roll(2) == 0 {
		c.Pen = api.Pen{Fg: api.Color(roll(257)), Bg: api.Color([]int{0, 1, 255, 256}[roll(4)]), Attrs: uint8(roll(256))}
	}
	return c
}

// anyScreen is one of so many columns and rows that fits.
func anyScreen(roll func(int) int, cols, rows int) api.Screen {
	s := blank(cols, rows)
	for y := range rows {
		if roll(2) == 0 {
			continue
		}
		for x := range cols {
			s.Cells[y*cols+x] = anyCell(roll)
		}
	}
	s.X, s.Y, s.Hidden = roll(cols), roll(rows), roll(2) == 0
	s.Title = titles()[roll(len(titles()))]
	return s
}

// altered is a screen of the same size with some of it changed, or nothing.
func altered(roll func(int) int, s api.Screen) api.Screen {
	s = clone(s)
	for range roll(4) {
		s.Cells[roll(len(s.Cells))] = anyCell(roll)
	}
	if roll(3) == 0 {
		s.X, s.Y, s.Hidden = roll(s.Cols), roll(s.Rows), roll(2) == 0
	}
	if roll(3) == 0 {
		s.Title = titles()[roll(len(titles()))]
	}
	return s
}

// fitting are screens that fit: of the least and the greatest sizes, blank ones, those of terminals, and any.
func fitting(t *testing.T, n int) []api.Screen {
	t.Helper()
	l := []api.Screen{someScreen(), screen(1, "a"), screen(2, "ab"), screen(1, "ab"), blank(1, 1), blank(4, 3), blank(80, 24)}
	full := blank(80, 24)
	for i := range full.Cells {
		full.Cells[i] = api.Cell{Rune: 'z', Pen: api.Pen{Fg: 256, Bg: 256, Attrs: 255}}
	}
	full.X, full.Y, full.Title = 79, 23, strings.Repeat("x", 64)
	l = append(l, full)
	for _, text := range []string{"", "abc\r\nd", "\x1b[31;48;5;255mb\x1b[2;3Hc\x1b]0;title\x07\x1b[?25l"} {
		term, e := emul.New(4, 3)
		if e != ok {
			t.Fatal("no terminal")
		}
		term.Feed([]byte(text))
		l = append(l, term.Screen())
	}
	roll := rolls(16)
	for i := range n {
		if i%2 == 0 {
			l = append(l, anyScreen(roll, 1+roll(6), 1+roll(5)))
			continue
		}
		l = append(l, altered(roll, l[len(l)-1]))
	}
	return l
}

// misfit is a screen that doesn't fit, and why.
type misfit struct {
	name   string
	screen api.Screen
}

// mayNot are screens that may not be: some screen with one thing changed.
func mayNot() []misfit {
	var l []misfit
	add := func(name string, change func(s *api.Screen)) {
		s := someScreen()
		change(&s)
		l = append(l, misfit{name, s})
	}
	for _, n := range []int{math.MinInt, -4, -1, 0, 3, 5, 81, 256 + 4, 1 << 32, math.MaxInt} {
		add(fmt.Sprint("Cols ", n), func(s *api.Screen) { s.Cols = n })
	}
	for _, n := range []int{math.MinInt, -3, -1, 0, 2, 4, 25, 256 + 3, 1 << 32, math.MaxInt} {
		add(fmt.Sprint("Rows ", n), func(s *api.Screen) { s.Rows = n })
	}
	for _, n := range []int{math.MinInt, -1, 4, 256, math.MaxInt} {
		add(fmt.Sprint("X ", n), func(s *api.Screen) { s.X = n })
	}
	for _, n := range []int{math.MinInt, -1, 3, 256, math.MaxInt} {
		add(fmt.Sprint("Y ", n), func(s *api.Screen) { s.Y = n })
	}
	for i, title := range []string{strings.Repeat("x", 65), strings.Repeat("x", 256), "a\x07", "\u0301", "\xff", "\xe2\x82", "a\x00"} {
		add(fmt.Sprint("title ", i), func(s *api.Screen) { s.Title = title })
	}
	for _, r := range []rune{-1, 0, 10, 31, 127, 0x301, 0x4E00, 0xD800, 0x110000, math.MinInt32, math.MaxInt32} {
		add(fmt.Sprint("rune ", r), func(s *api.Screen) { s.Cells[11].Rune = r })
	}
	for _, c := range []api.Color{257, 65535, 65536, rgb - 1, 2 * rgb, math.MaxUint32} {
		add(fmt.Sprint("Fg ", c), func(s *api.Screen) { s.Cells[0].Pen.Fg = c })
		add(fmt.Sprint("Bg ", c), func(s *api.Screen) { s.Cells[0].Pen.Bg = c })
	}
	add("mouse 3", func(s *api.Screen) { s.Mouse = 3 })
	add("no cells", func(s *api.Screen) { s.Cells = nil })
	add("a cell less", func(s *api.Screen) { s.Cells = s.Cells[:11] })
	add("a cell more", func(s *api.Screen) { s.Cells = append(s.Cells, s.Cells[0]) })
	add("a left half alone", func(s *api.Screen) { s.Cells[0] = api.Cell{Rune: 0x4E00, Wide: 1} })
	add("a right half alone", func(s *api.Screen) { s.Cells[0] = api.Cell{Wide: 2} })
	add("Wide 3", func(s *api.Screen) { s.Cells[0].Wide = 3 })
	add("a link without its text", func(s *api.Screen) { s.Cells[0].Pen.Link = 1 })
	add("a link's text alone", func(s *api.Screen) { s.Links = []string{"x"} })
	return append(l, misfit{"zero", api.Screen{}})
}

// mayButNot are screens that may be and don't fit, each by one thing alone, at the first place or at the last one.
func mayButNot(t *testing.T) []misfit {
	t.Helper()
	var l []misfit
	add := func(name string, change func(s *api.Screen)) {
		s := someScreen()
		change(&s)
		if !emul.Right(s) {
			t.Fatal("may not be:", name, drawn(s))
		}
		l = append(l, misfit{name, s})
	}
	for _, i := range []int{0, 5, 10} {
		add(fmt.Sprint("a wide letter at ", i), func(s *api.Screen) {
			s.Cells[i], s.Cells[i+1] = api.Cell{Rune: 0x4E00, Wide: 1}, api.Cell{Wide: 2}
		})
	}
	for _, i := range []int{0, 5, 11} {
		add(fmt.Sprint("a link at ", i), func(s *api.Screen) { s.Cells[i].Pen.Link, s.Links = 1, []string{"x"} })
		for _, c := range []api.Color{rgb, rgb + 1, rgb + 256, rgb + 0x123456, 2*rgb - 1} {
			add(fmt.Sprint("Fg ", c, " at ", i), func(s *api.Screen) { s.Cells[i].Pen.Fg = c })
			add(fmt.Sprint("Bg ", c, " at ", i), func(s *api.Screen) { s.Cells[i].Pen.Bg = c })
		}
	}
	for mouse := uint8(1); mouse <= 2; mouse++ {
		add(fmt.Sprint("mouse ", mouse), func(s *api.Screen) { s.Mouse = mouse })
	}
	return l
}

// The model: it takes the words of the chapter one by one.

// modelFits is what Fits has to answer.
func modelFits(s api.Screen) bool {
	if !emul.Right(s) || s.Mouse != 0 {
		return false
	}
	for _, c := range s.Cells {
		if c.Wide != 0 || c.Pen.Link != 0 || c.Pen.Fg > 256 || c.Pen.Bg > 256 {
			return false
		}
	}
	return true
}

// modelCell is how a cell is laid.
func modelCell(c api.Cell) []byte {
	r, f, g := uint32(c.Rune), c.Pen.Fg, c.Pen.Bg
	return []byte{byte(r >> 24), byte(r >> 16), byte(r >> 8), byte(r), byte(f >> 8), byte(f), byte(g >> 8), byte(g), c.Pen.Attrs}
}

// modelDiff is the diff from a screen of the same size as another one, which is blank or isn't.
func modelDiff(from, b api.Screen, isBlank bool) []byte {
	d := []byte{byte(b.Cols), byte(b.Rows), byte(b.X), byte(b.Y), 0}
	if b.Hidden {
		d[4] += 1
	}
	if isBlank {
		d[4] += 4
	}
	if from.Title != b.Title {
		d[4] += 2
		d = append(d, byte(len(b.Title)))
		d = append(d, []byte(b.Title)...)
	}
	count := len(d)
	d = append(d, 0)
	for y := range b.Rows {
		was, is := from.Cells[y*b.Cols:][:b.Cols], b.Cells[y*b.Cols:][:b.Cols]
		if slices.Equal(was, is) {
			continue
		}
		d[count]++
		d = append(d, byte(y))
		for _, c := range is {
			d = append(d, modelCell(c)...)
		}
	}
	return d
}

// modelFull is what Full has to answer.
func modelFull(b api.Screen) ([]byte, api.Errno) {
	if !modelFits(b) {
		return nil, errArg
	}
	return modelDiff(blank(b.Cols, b.Rows), b, true), ok
}

// modelEncode is what Encode has to answer.
func modelEncode(a, b api.Screen) ([]byte, api.Errno) {
	if !modelFits(a) || !modelFits(b) {
		return nil, errArg
	}
	if a.Cols != b.Cols || a.Rows != b.Rows {
		return modelFull(b)
	}
	return modelDiff(a, b, false), ok
}

// modelApply is what Apply has to answer.
func modelApply(a api.Screen, d []byte) (none api.Screen, e api.Errno) {
	if !modelFits(a) {
		return none, errArg
	}
	if len(d) < 5 {
		return none, errShort
	}
	cols, rows, x, y, flags := int(d[0]), int(d[1]), int(d[2]), int(d[3]), d[4]
	if flags > 7 || cols < 1 || cols > 80 || rows < 1 || rows > 24 {
		return none, errForm
	}
	if flags/4 == 0 && (cols != a.Cols || rows != a.Rows) {
		return none, errBase
	}
	s := clone(a)
	if flags/4 == 1 {
		s = blank(cols, rows)
	}
	s.X, s.Y, s.Hidden = x, y, flags%2 == 1
	d = d[5:]
	if flags/2%2 == 1 {
		if len(d) < 1 || len(d) < 1+int(d[0]) {
			return none, errShort
		}
		s.Title = string(d[1 : 1+d[0]])
		d = d[1+len(s.Title):]
	}
	if d, e = modelRows(&s, d); e != ok {
		return none, e
	}
	if len(d) > 0 {
		return none, errRest
	}
	if !modelFits(s) {
		return none, errForm
	}
	return s, ok
}

// modelRows reads a diff's rows into a screen, and answers what stands behind them.
func modelRows(s *api.Screen, d []byte) ([]byte, api.Errno) {
	if len(d) < 1 {
		return nil, errShort
	}
	count, above := int(d[0]), -1
	d = d[1:]
	for range count {
		if len(d) < 1 {
			return nil, errShort
		}
		y := int(d[0])
		if y >= s.Rows || y <= above {
			return nil, errForm
		}
		d, above = d[1:], y
		for x := range s.Cols {
			if len(d) < 9 {
				return nil, errShort
			}
			r := rune(int32(uint32(d[0])<<24 | uint32(d[1])<<16 | uint32(d[2])<<8 | uint32(d[3])))
			f, g := int(d[4])*256+int(d[5]), int(d[6])*256+int(d[7])
			c := api.Cell{Rune: r, Pen: api.Pen{Fg: api.Color(f), Bg: api.Color(g), Attrs: d[8]}}
			if f > 256 || g > 256 || !cell.May(c) {
				return nil, errForm
			}
			s.Cells[y*s.Cols+x] = c
			d = d[9:]
		}
	}
	return d, ok
}

// Diffs that tests are made of.

// diff joins bytes, numbers, letters (each a cell of the zero pen, a dot for a blank), and cells.
func diff(parts ...any) []byte {
	var d []byte
	for _, part := range parts {
		switch part := part.(type) {
		case int:
			d = append(d, byte(part))
		case []byte:
			d = append(d, part...)
		case string:
			for _, c := range letters(part) {
				d = append(d, modelCell(c)...)
			}
		case api.Cell:
			d = append(d, modelCell(part)...)
		default:
			panic("no part of a diff")
		}
	}
	return d
}

// leads has Apply answer what is wanted, without an error.
func leads(t *testing.T, a api.Screen, d []byte, want api.Screen) {
	t.Helper()
	if got, e := rows.Apply(a, d); e != ok || !same(got, want) {
		t.Fatalf("%v to %s: error %d, %s, and not %s", d[:min(len(d), 60)], drawn(a), e, drawn(got), drawn(want))
	}
}

// refuses has Apply answer an error, and nothing else.
func refuses(t *testing.T, name string, a api.Screen, d []byte, want api.Errno) {
	t.Helper()
	if got, e := rows.Apply(a, d); e != want || !zero(got) {
		t.Fatalf("%s: %v to %s: error %d and not %d, %s", name, d[:min(len(d), 60)], drawn(a), e, want, drawn(got))
	}
}
