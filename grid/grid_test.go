package grid_test

import (
	"math"
	"slices"
	"strconv"
	"strings"
	"sync"
	"testing"

	"spyglass/api"
	"spyglass/cell"
	"spyglass/grid"
)

// A grid has at most so many columns and rows.
const (
	mostCols = 80
	mostRows = 24
)

// rgb is what a colour of three parts has more.
const rgb = 1 << 24

// Three pens with everything set, no two of which have the same blank; grids are of the first two, and what is done to them is done with the third.
var (
	one   = api.Pen{Fg: 1, Bg: 2, Attrs: 1, Link: 1}
	two   = api.Pen{Fg: 256, Bg: rgb, Attrs: 255, Link: math.MaxUint16}
	three = api.Pen{Fg: rgb + 0xFFFFFF, Bg: 256, Attrs: 128, Link: 7}
)

// badPens are some that may not be.
func badPens() []api.Pen {
	return []api.Pen{{Fg: 257}, {Bg: 257}, {Fg: 257, Bg: 257}, {Fg: rgb - 1, Bg: 1}, {Fg: 1, Bg: 2 * rgb}, {Fg: math.MaxUint32}, {Bg: math.MaxUint32, Attrs: 255, Link: 1}}
}

// spelt tells for which cell a letter of these tests stands.
func spelt(letter rune) api.Cell {
	switch letter {
	case '.':
		return api.Cell{Rune: 32}
	case '1':
		return api.Cell{Rune: 32, Pen: api.Pen{Bg: 2}}
	case '2':
		return api.Cell{Rune: 32, Pen: api.Pen{Bg: rgb}}
	case '3':
		return api.Cell{Rune: 32, Pen: api.Pen{Bg: 256}}
	case 'a', 'd', 'e':
		return api.Cell{Rune: letter, Pen: one}
	case 'b':
		return api.Cell{Rune: 'b', Pen: two}
	case 'c':
		return api.Cell{Rune: 'c', Pen: three}
	case 'V':
		return api.Cell{Rune: 0x4E00, Wide: 1, Pen: one}
	case 'W':
		return api.Cell{Rune: 0x1F600, Wide: 1, Pen: one}
	case '>':
		return api.Cell{Wide: 2, Pen: one}
	case 'U':
		return api.Cell{Rune: 0x4E00, Wide: 1, Pen: two}
	case ']':
		return api.Cell{Wide: 2, Pen: two}
	case 'X':
		return api.Cell{Rune: 0x4E00, Wide: 1, Pen: three}
	case ')':
		return api.Cell{Wide: 2, Pen: three}
	}
	return api.Cell{Rune: -1, Wide: 3}
}

// letters are all those that stand for cells that may be.
const letters = ".123adebcVW>U]X)"

// line answers the cells for which letters stand.
func line(text string) []api.Cell {
	var l []api.Cell
	for _, letter := range text {
		l = append(l, spelt(letter))
	}
	return l
}

// spell answers the grid whose rows are told by letters, with a stroke between two.
func spell(text string) grid.Grid {
	rows := strings.Split(text, "/")
	return grid.Grid{Cols: len(rows[0]), Rows: len(rows), Cells: line(strings.Join(rows, ""))}
}

// told is a row as letters.
func told(l []api.Cell) string {
	var s strings.Builder
	for _, c := range l {
		i := slices.IndexFunc([]rune(letters), func(letter rune) bool { return spelt(letter) == c })
		if i < 0 {
			s.WriteString("(" + strconv.Itoa(int(c.Rune)) + " " + strconv.Itoa(int(c.Wide)) + ")")
			continue
		}
		s.WriteByte(letters[i])
	}
	return s.String()
}

// show tells a grid: its size, and its rows as letters.
func show(g grid.Grid) string {
	var l []string
	for rest := g.Cells; len(rest) > 0; {
		n := max(1, min(g.Cols, len(rest)))
		l = append(l, told(rest[:n]))
		rest = rest[n:]
	}
	return strconv.Itoa(g.Cols) + " " + strconv.Itoa(g.Rows) + " " + strings.Join(l, "/")
}

// same tells whether two grids are the same.
func same(g, h grid.Grid) bool {
	return g.Cols == h.Cols && g.Rows == h.Rows && slices.Equal(g.Cells, h.Cells)
}

// copyOf is a grid that shares nothing with another one.
func copyOf(g grid.Grid) grid.Grid {
	return grid.Grid{Cols: g.Cols, Rows: g.Rows, Cells: slices.Clone(g.Cells)}
}

// rolls answers numbers that look like none in particular, the same ones each time.
func rolls(seed uint64) func(below int) int {
	return func(below int) int {
		seed = seed*6364136223846793005 + 1442695040888963407
		return int((seed >> 33) % uint64(below))
	}
}

// wholes are the texts of all rows that may be of so many cells, made of narrow letters and of wide ones, two of one pen.
func wholes(cells int) []string {
	if cells == 0 {
		return []string{""}
	}
	var l []string
	for _, rest := range wholes(cells - 1) {
		l = append(l, "."+rest, "a"+rest)
	}
	if cells > 1 {
		for _, rest := range wholes(cells - 2) {
			l = append(l, "V>"+rest, "W>"+rest, "U]"+rest)
		}
	}
	return l
}

// some answers the text of a row that may be of so many cells.
func some(roll func(int) int, cells int) string {
	var s strings.Builder
	for s.Len() < cells {
		part := []string{".", "a", "b", "2", "V>", "W>", "U]"}[roll(7)]
		if s.Len()+len(part) <= cells {
			s.WriteString(part)
		}
	}
	return s.String()
}

// someGrid answers a grid that may be of a size.
func someGrid(roll func(int) int, cols, rows int) grid.Grid {
	var l []string
	for range rows {
		l = append(l, some(roll, cols))
	}
	return spell(strings.Join(l, "/"))
}

// anyGrid answers one of any size, the greatest more often than others.
func anyGrid(roll func(int) int) grid.Grid {
	cols, rows := 1+roll(mostCols), 1+roll(mostRows)
	if roll(4) == 0 {
		cols, rows = mostCols, mostRows
	}
	return someGrid(roll, cols, rows)
}

// smalls are grids of up to three columns and rows, each row of which may be any that there is.
func smalls() []grid.Grid {
	var l []grid.Grid
	roll := rolls(9)
	for cols := 1; cols <= 3; cols++ {
		rows := wholes(cols)
		for i, first := range rows {
			l = append(l, spell(first))
			for _, second := range rows {
				l = append(l, spell(first+"/"+second))
			}
			l = append(l, spell(first+"/"+rows[roll(len(rows))]+"/"+rows[(i*7+3)%len(rows)]))
		}
	}
	return l
}

// lines are a grid's rows, to be changed one by one.
func lines(g grid.Grid) [][]api.Cell {
	var l [][]api.Cell
	for c := range slices.Chunk(slices.Clone(g.Cells), g.Cols) {
		l = append(l, c)
	}
	return l
}

// joined is the grid that has such rows.
func joined(l [][]api.Cell) grid.Grid {
	return grid.Grid{Cols: len(l[0]), Rows: len(l), Cells: slices.Concat(l...)}
}

// blanks are so many of a pen.
func blanks(n int, p api.Pen) []api.Cell {
	return slices.Repeat([]api.Cell{{Rune: 32, Pen: api.Pen{Bg: p.Bg}}}, n)
}

// wantInRow is a grid in whose row y something was done.
func wantInRow(g grid.Grid, y int, do func(l []api.Cell) []api.Cell) grid.Grid {
	l := lines(g)
	for i := range l {
		if i == y {
			l[i] = do(l[i])
		}
	}
	return joined(l)
}

// wantClear is what Clear has to answer for a grid that may be and a pen that may: one place at a time.
func wantClear(g grid.Grid, from, to int, p api.Pen) grid.Grid {
	l := lines(g)
	for i := range g.Cells {
		if i >= from && i < to {
			y, x := i/g.Cols, i%g.Cols
			l[y] = cell.Erase(l[y], x, x+1, p)
		}
	}
	return joined(l)
}

// wantScroll is what Scroll has to answer, likewise: one row at a time.
func wantScroll(g grid.Grid, top, bottom, n int, p api.Pen) grid.Grid {
	if top < 0 || bottom >= g.Rows || top > bottom {
		return g
	}
	l := lines(g)
	for i := 0; i < g.Rows && i < n; i++ {
		l = slices.Insert(slices.Delete(l, top, top+1), bottom, blanks(g.Cols, p))
	}
	for i := 0; i < g.Rows && -i > n; i++ {
		l = slices.Insert(slices.Delete(l, bottom, bottom+1), top, blanks(g.Cols, p))
	}
	return joined(l)
}

// wantResize is what Resize has to answer, likewise.
func wantResize(g grid.Grid, cols, rows int) grid.Grid {
	if cols < 1 || cols > mostCols || rows < 1 || rows > mostRows {
		return grid.Grid{}
	}
	var l [][]api.Cell
	for y := range rows {
		row := blanks(cols, api.Pen{})
		if y < g.Rows {
			copy(row, lines(g)[y])
		}
		if c := row[cols-1]; c.Wide == 1 {
			row[cols-1] = blanks(1, c.Pen)[0]
		}
		l = append(l, row)
	}
	return joined(l)
}

// extremes are numbers for which no grid has room.
func extremes() []int {
	return []int{math.MinInt, math.MinInt + 1, math.MinInt + mostRows, math.MinInt + mostCols*mostRows, math.MinInt32, -mostCols * mostRows, -mostRows - 1, mostCols*mostRows + 1, math.MaxInt32, math.MaxInt - mostCols, math.MaxInt - 1, math.MaxInt}
}

// around are numbers from below 0 to beyond some, and the extremes.
func around(n int) []int {
	l := extremes()
	for i := -2; i <= n+2; i++ {
		l = append(l, i)
	}
	return l
}

// near are the numbers at which something changes, for up to n of them.
func near(roll func(int) int, n int) []int {
	return []int{math.MinInt, -1, 0, 1, n - 2, n - 1, n, n + 1, math.MaxInt, roll(n), roll(n), roll(n)}
}

// call is one that was made: its name, the grid, and numbers.
type call struct {
	name    string
	g       grid.Grid
	a, b, c int
}

func (c call) String() string {
	return c.name + " " + strconv.Itoa(c.a) + " " + strconv.Itoa(c.b) + " " + strconv.Itoa(c.c) + " of " + show(c.g)
}

// check holds an answer against what it has to be, and asks whether it may be (P9.2).
func check(t *testing.T, made call, got, want grid.Grid) {
	t.Helper()
	if !same(got, want) {
		t.Fatal(made, "answered", show(got), "and not", show(want))
	}
	if !grid.May(got) {
		t.Fatal(made, "answered", show(got), "which may not be")
	}
}

// none asks that an answer is the zero grid.
func none(t *testing.T, made call, got grid.Grid) {
	t.Helper()
	if got.Cols != 0 || got.Rows != 0 || len(got.Cells) != 0 {
		t.Fatal(made, "answered", show(got), "and not the zero one")
	}
}

// P9.1: New

func TestNew(t *testing.T) {
	for _, cols := range append(around(mostCols), 40) {
		for _, rows := range append(around(mostRows), 12) {
			g, e := grid.New(cols, rows)
			if cols < 1 || cols > mostCols || rows < 1 || rows > mostRows {
				none(t, call{"New", grid.Grid{}, cols, rows, 0}, g)
				if e != api.ErrArg {
					t.Error("New", cols, rows, "answered the error", e)
				}
				continue
			}
			want := grid.Grid{Cols: cols, Rows: rows, Cells: blanks(cols*rows, api.Pen{})}
			check(t, call{"New", grid.Grid{}, cols, rows, 0}, g, want)
			if e != api.OK {
				t.Error("New", cols, rows, "answered the error", e)
			}
		}
	}
}

// P9.1: May

func TestMay(t *testing.T) {
	for text, want := range map[string]bool{
		".": true, "a/b": true, "V>": true, "V>/U]": true, "aV>/V>a": true, "aV>/U]2/W>.": true,
		"V": false, ">": false, "V/>": false, ">/V": false, "aV/>a": false, "V>a/aV": false, ">a/V>": false, "aV>/.>.": false,
		"V>V/>V>": false, "ab/V]": false, "ab/U>/ab": false, "?": false, "ab/a?": false, "?b/ab": false, "ab/?b/ab": false,
	} {
		if grid.May(spell(text)) != want {
			t.Error(text, "may be:", !want)
		}
	}
}

func TestMayOfSizes(t *testing.T) {
	for _, cells := range []int{0, 1, 2, 3, 4, 5, 6, 7, 8, 79, 80, 81, 160, mostCols*mostRows - 1, mostCols * mostRows, mostCols*mostRows + 1} {
		l := line(strings.Repeat("a", cells))
		for _, cols := range append(around(mostCols), -80, -6, -3, -4) {
			for _, rows := range append(around(mostRows), 80, -80, -6, -3, -4) {
				want := cols >= 1 && cols <= mostCols && rows >= 1 && rows <= mostRows && cells == cols*rows
				if got := grid.May(grid.Grid{Cols: cols, Rows: rows, Cells: l}); got != want {
					t.Fatal(cells, "cells as", cols, "columns and", rows, "rows may be:", got)
				}
			}
		}
	}
}

// A wide letter may stand at the end of a row, but not at the end of one and the beginning of the next.
func TestMayOfRows(t *testing.T) {
	l := line("aaV>aa")
	for cols, want := range map[int]bool{1: false, 2: true, 3: false, 6: true} {
		if got := grid.May(grid.Grid{Cols: cols, Rows: 6 / cols, Cells: l}); got != want {
			t.Error("rows of", cols, "cells may be:", got)
		}
	}
	for y := range mostRows {
		for _, x := range []int{0, 1, 40, mostCols - 2, mostCols - 1} {
			g := spell(strings.Repeat(strings.Repeat("a", mostCols)+"/", mostRows-1) + strings.Repeat("a", mostCols))
			for _, letter := range "V>?" {
				g.Cells[y*mostCols+x] = spelt(letter)
				if grid.May(g) {
					t.Fatal("a grid may be with", string(letter), "at", x, y)
				}
			}
			if x+1 < mostCols || y+1 < mostRows {
				g.Cells[y*mostCols+x], g.Cells[y*mostCols+x+1] = spelt('V'), spelt('>')
				if got, want := grid.May(g), x+1 < mostCols; got != want {
					t.Fatal("a grid may be with a wide letter at", x, y, ":", got)
				}
			}
		}
	}
}

func TestMayOfPens(t *testing.T) {
	for _, p := range badPens() {
		for i := range 4 {
			g := spell("aa/aa")
			g.Cells[i].Pen = p
			if grid.May(g) {
				t.Error("a grid may be with the pen", p, "at", i)
			}
		}
	}
}

// P9.1: Row

func TestRow(t *testing.T) {
	for _, g := range append(smalls(), anyGrid(rolls(91)), anyGrid(rolls(92)), someGrid(rolls(93), mostCols, mostRows)) {
		l := lines(g)
		for _, y := range around(g.Rows) {
			var want []api.Cell
			if y >= 0 && y < g.Rows {
				want = l[y]
			}
			if got := grid.Row(g, y); !slices.Equal(got, want) {
				t.Fatal(call{"Row", g, y, 0, 0}, "answered", told(got), "and not", told(want))
			}
		}
	}
}

// P9.1: the examples, and what was worked out by hand

func TestExamples(t *testing.T) {
	g, _ := grid.New(3, 2)
	g = grid.Put(g, 0, 0, 'a', one)
	g = grid.Put(g, 1, 1, 'b', two)
	check(t, call{name: "Put"}, g, spell("a../.b."))
	check(t, call{name: "Scroll"}, grid.Scroll(g, 0, 1, 1, three), spell(".b./333"))
	check(t, call{name: "Clear"}, grid.Clear(g, 2, 4, three), spell("a.3/3b."))
	check(t, call{name: "Scroll, zero pen"}, grid.Scroll(g, 0, 1, 1, api.Pen{}), spell(".b./..."))
	check(t, call{name: "Clear, zero pen"}, grid.Clear(g, 2, 4, api.Pen{}), spell("a../.b."))
}

func TestInRows(t *testing.T) {
	const text = "aV>b/ada2/U]V>"
	for y, wants := range map[int][4]string{
		0:  {"ac1b/ada2/U]V>", "aX)b/ada2/U]V>", "a3V>/ada2/U]V>", "a1b3/ada2/U]V>"},
		1:  {"aV>b/aca2/U]V>", "aV>b/aX)2/U]V>", "aV>b/a3da/U]V>", "aV>b/aa23/U]V>"},
		2:  {"aV>b/ada2/2cV>", "aV>b/ada2/2X)1", "aV>b/ada2/2321", "aV>b/ada2/2V>3"},
		-1: {text, text, text, text}, 3: {text, text, text, text}, math.MinInt: {text, text, text, text}, math.MaxInt: {text, text, text, text},
	} {
		check(t, call{"Put", spell(text), 1, y, 'c'}, grid.Put(spell(text), 1, y, 'c', three), spell(wants[0]))
		check(t, call{"Put", spell(text), 1, y, 0x4E00}, grid.Put(spell(text), 1, y, 0x4E00, three), spell(wants[1]))
		check(t, call{"Insert", spell(text), 1, y, 1}, grid.Insert(spell(text), 1, y, 1, three), spell(wants[2]))
		check(t, call{"Delete", spell(text), 1, y, 1}, grid.Delete(spell(text), 1, y, 1, three), spell(wants[3]))
	}
}

func TestClear(t *testing.T) {
	for i, x := range []struct {
		text     string
		from, to int
		want     string
	}{
		{"a", 0, 1, "3"}, {"a", 0, 0, "a"}, {"a", 1, 1, "a"}, {"a", 1, 0, "a"}, {"a", -1, 0, "a"}, {"a", -1, 1, "3"}, {"a", 0, 9, "3"}, {"a", 1, 9, "a"}, {"a", -9, 9, "3"},
		{"aaa/ddd/eee", 0, 0, "aaa/ddd/eee"}, {"aaa/ddd/eee", 4, 4, "aaa/ddd/eee"}, {"aaa/ddd/eee", 4, 3, "aaa/ddd/eee"}, {"aaa/ddd/eee", 8, 1, "aaa/ddd/eee"}, {"aaa/ddd/eee", 9, 9, "aaa/ddd/eee"},
		{"aaa/ddd/eee", 0, 1, "3aa/ddd/eee"}, {"aaa/ddd/eee", 4, 5, "aaa/d3d/eee"}, {"aaa/ddd/eee", 8, 9, "aaa/ddd/ee3"}, {"aaa/ddd/eee", 2, 3, "aa3/ddd/eee"}, {"aaa/ddd/eee", 3, 4, "aaa/3dd/eee"},
		{"aaa/ddd/eee", 0, 3, "333/ddd/eee"}, {"aaa/ddd/eee", 3, 6, "aaa/333/eee"}, {"aaa/ddd/eee", 6, 9, "aaa/ddd/333"}, {"aaa/ddd/eee", 3, 5, "aaa/33d/eee"}, {"aaa/ddd/eee", 4, 6, "aaa/d33/eee"},
		{"aaa/ddd/eee", 2, 4, "aa3/3dd/eee"}, {"aaa/ddd/eee", 1, 6, "a33/333/eee"}, {"aaa/ddd/eee", 2, 7, "aa3/333/3ee"}, {"aaa/ddd/eee", 0, 9, "333/333/333"}, {"aaa/ddd/eee", -1, 4, "333/3dd/eee"},
		{"aaa/ddd/eee", 5, 99, "aaa/dd3/333"}, {"aaa/ddd/eee", -99, 99, "333/333/333"}, {"aaa/ddd/eee", -99, 0, "aaa/ddd/eee"}, {"aaa/ddd/eee", 99, -99, "aaa/ddd/eee"}, {"aaa/ddd/eee", -99, -1, "aaa/ddd/eee"},
		{"aaa/ddd/eee", math.MinInt, math.MaxInt, "333/333/333"}, {"aaa/ddd/eee", math.MaxInt, math.MinInt, "aaa/ddd/eee"}, {"aaa/ddd/eee", math.MinInt, math.MinInt, "aaa/ddd/eee"}, {"aaa/ddd/eee", math.MaxInt, math.MaxInt, "aaa/ddd/eee"},
		{"aaa/ddd/eee", 4, math.MinInt, "aaa/ddd/eee"}, {"aaa/ddd/eee", 4, math.MaxInt, "aaa/d33/333"}, {"aaa/ddd/eee", math.MinInt, 4, "333/3dd/eee"}, {"aaa/ddd/eee", math.MaxInt, 4, "aaa/ddd/eee"},
		{"aV>/U]d", 2, 4, "a13/32d"}, {"aV>/U]d", 1, 4, "a33/32d"}, {"aV>/U]d", 2, 3, "a13/U]d"}, {"aV>/U]d", 3, 4, "aV>/32d"}, {"aV>/U]d", 2, 5, "a13/33d"}, {"aV>/U]d", 3, 3, "aV>/U]d"}, {"aV>/U]d", 2, 2, "aV>/U]d"},
		{"V>d/V>d/V>d", 1, 7, "133/333/31d"}, {"V>V>/V>V>", 1, 7, "1333/3331"}, {"V>V>/V>V>", 3, 5, "V>13/31V>"},
	} {
		made := call{"Clear " + strconv.Itoa(i), spell(x.text), x.from, x.to, 0}
		check(t, made, grid.Clear(spell(x.text), x.from, x.to, three), spell(x.want))
	}
}

func TestScroll(t *testing.T) {
	const text = "aa/bb/V>/dd/ee"
	for _, x := range []struct {
		top, bottom, n int
		want           string
	}{
		{0, 4, 0, text}, {0, 4, 1, "bb/V>/dd/ee/33"}, {0, 4, -1, "33/aa/bb/V>/dd"}, {0, 4, 2, "V>/dd/ee/33/33"}, {0, 4, -2, "33/33/aa/bb/V>"},
		{0, 4, 4, "ee/33/33/33/33"}, {0, 4, -4, "33/33/33/33/aa"}, {0, 4, 5, "33/33/33/33/33"}, {0, 4, -5, "33/33/33/33/33"}, {0, 4, 6, "33/33/33/33/33"}, {0, 4, -6, "33/33/33/33/33"},
		{0, 4, math.MaxInt, "33/33/33/33/33"}, {0, 4, math.MinInt, "33/33/33/33/33"}, {0, 4, math.MaxInt - 4, "33/33/33/33/33"}, {0, 4, math.MinInt + 4, "33/33/33/33/33"},
		{1, 3, 0, text}, {1, 3, 1, "aa/V>/dd/33/ee"}, {1, 3, -1, "aa/33/bb/V>/ee"}, {1, 3, 2, "aa/dd/33/33/ee"}, {1, 3, -2, "aa/33/33/bb/ee"}, {1, 3, 3, "aa/33/33/33/ee"}, {1, 3, -3, "aa/33/33/33/ee"},
		{1, 3, 4, "aa/33/33/33/ee"}, {1, 3, math.MaxInt, "aa/33/33/33/ee"}, {1, 3, math.MinInt, "aa/33/33/33/ee"},
		{2, 2, 0, text}, {2, 2, 1, "aa/bb/33/dd/ee"}, {2, 2, -1, "aa/bb/33/dd/ee"}, {2, 2, 9, "aa/bb/33/dd/ee"}, {0, 0, 1, "33/bb/V>/dd/ee"}, {4, 4, -1, "aa/bb/V>/dd/33"},
		{0, 1, 1, "bb/33/V>/dd/ee"}, {3, 4, -1, "aa/bb/V>/33/dd"}, {3, 4, 1, "aa/bb/V>/ee/33"},
		{-1, 4, 1, text}, {-1, -1, 1, text}, {0, 5, 1, text}, {4, 5, 1, text}, {5, 5, 1, text}, {3, 2, 1, text}, {3, 2, -1, text}, {4, 0, 1, text}, {1, 0, 1, text}, {0, -1, 1, text},
		{math.MinInt, 4, 1, text}, {0, math.MaxInt, 1, text}, {math.MinInt, math.MaxInt, 1, text}, {math.MaxInt, math.MinInt, 1, text}, {0, math.MinInt, 1, text}, {math.MaxInt, 4, 1, text}, {math.MaxInt, math.MaxInt, 1, text}, {math.MinInt, math.MinInt, 1, text},
	} {
		made := call{"Scroll", spell(text), x.top, x.bottom, x.n}
		check(t, made, grid.Scroll(spell(text), x.top, x.bottom, x.n, three), spell(x.want))
	}
}

func TestResize(t *testing.T) {
	const text = "aV>/U]b/dde"
	for _, x := range []struct {
		cols, rows int
		want       string
	}{
		{3, 3, text}, {4, 3, "aV>./U]b./dde."}, {3, 4, text + "/..."}, {5, 5, "aV>../U]b../dde../...../....."}, {3, 2, "aV>/U]b"}, {3, 1, "aV>"},
		{2, 3, "a1/U]/dd"}, {1, 3, "a/2/d"}, {1, 1, "a"}, {2, 2, "a1/U]"}, {2, 4, "a1/U]/dd/.."}, {1, 5, "a/2/d/./."}, {4, 2, "aV>./U]b."}, {6, 1, "aV>..."},
	} {
		check(t, call{"Resize", spell(text), x.cols, x.rows, 0}, grid.Resize(spell(text), x.cols, x.rows), spell(x.want))
	}
	for _, cols := range append(extremes(), -1, 0, 1, 3, mostCols, mostCols+1) {
		for _, rows := range append(extremes(), -1, 0, 1, 3, mostRows, mostRows+1) {
			if cols < 1 || cols > mostCols || rows < 1 || rows > mostRows {
				none(t, call{"Resize", spell(text), cols, rows, 0}, grid.Resize(spell(text), cols, rows))
			}
		}
	}
}

// P9.1, P9.2: against models

// tryInRows holds Put, Insert and Delete, with numbers, against what they have to answer for one grid.
func tryInRows(t *testing.T, g grid.Grid, p api.Pen, xs, ys, ns []int) {
	t.Helper()
	for _, y := range ys {
		for _, x := range xs {
			for _, r := range []rune{'c', ' ', 0x4E00, 0, 0x301, -1} {
				want := wantInRow(g, y, func(l []api.Cell) []api.Cell { return cell.Put(l, x, r, p) })
				check(t, call{"Put", g, x, y, int(r)}, grid.Put(g, x, y, r, p), want)
			}
			for _, n := range ns {
				want := wantInRow(g, y, func(l []api.Cell) []api.Cell { return cell.Insert(l, x, n, p) })
				check(t, call{"Insert", g, x, y, n}, grid.Insert(g, x, y, n, p), want)
				want = wantInRow(g, y, func(l []api.Cell) []api.Cell { return cell.Delete(l, x, n, p) })
				check(t, call{"Delete", g, x, y, n}, grid.Delete(g, x, y, n, p), want)
			}
		}
	}
}

// tryClear holds Clear against its model, tryScroll Scroll, tryResize Resize.
func tryClear(t *testing.T, g grid.Grid, p api.Pen, numbers []int) {
	t.Helper()
	for _, from := range numbers {
		for _, to := range numbers {
			check(t, call{"Clear", g, from, to, 0}, grid.Clear(g, from, to, p), wantClear(g, from, to, p))
		}
	}
}

func tryScroll(t *testing.T, g grid.Grid, p api.Pen, ys, ns []int) {
	t.Helper()
	for _, top := range ys {
		for _, bottom := range ys {
			for _, n := range ns {
				check(t, call{"Scroll", g, top, bottom, n}, grid.Scroll(g, top, bottom, n, p), wantScroll(g, top, bottom, n, p))
			}
		}
	}
}

func tryResize(t *testing.T, g grid.Grid, colss, rowss []int) {
	t.Helper()
	for _, cols := range colss {
		for _, rows := range rowss {
			want := wantResize(g, cols, rows)
			if want.Cols == 0 {
				none(t, call{"Resize", g, cols, rows, 0}, grid.Resize(g, cols, rows))
				continue
			}
			check(t, call{"Resize", g, cols, rows, 0}, grid.Resize(g, cols, rows), want)
		}
	}
}

func TestInRowsOfSmallGrids(t *testing.T) {
	for _, g := range smalls() {
		some := []int{math.MinInt, -1, 0, 1, 2, 3, math.MaxInt}
		tryInRows(t, g, three, some, some, []int{math.MinInt, -1, 0, 1, 2, 4, math.MaxInt})
	}
}

func TestClearOfSmallGrids(t *testing.T) {
	for _, g := range smalls() {
		tryClear(t, g, three, []int{math.MinInt, -1, 0, 1, 2, 3, 4, 5, 6, 7, 8, 9, 10, math.MaxInt})
	}
	tryClear(t, spell("aV>/U]d/V>2"), three, around(9))
	tryClear(t, spell("aV>/U]d/V>2"), one, around(9))
	tryClear(t, spell("aV>/U]d/V>2"), api.Pen{}, around(9))
}

func TestScrollOfSmallGrids(t *testing.T) {
	for _, g := range smalls() {
		tryScroll(t, g, three, []int{-1, 0, 1, 2, 3}, []int{math.MinInt, -4, -3, -2, -1, 0, 1, 2, 3, 4, math.MaxInt})
	}
	tryScroll(t, spell("aV>/U]d/V>2"), three, around(3), around(3))
	tryScroll(t, spell("aV>/U]d/V>2"), one, around(3), []int{-2, -1, 0, 1, 2})
}

func TestResizeOfSmallGrids(t *testing.T) {
	for _, g := range smalls() {
		tryResize(t, g, []int{math.MinInt, -1, 0, 1, 2, 3, 4, 80, 81, math.MaxInt}, []int{math.MinInt, -1, 0, 1, 2, 3, 4, 24, 25, math.MaxInt})
	}
	tryResize(t, spell("aV>/U]d/V>2"), around(mostCols), around(mostRows))
}

func TestGreatGrids(t *testing.T) {
	roll := rolls(9)
	for range 12 {
		g := anyGrid(roll)
		tryInRows(t, g, three, near(roll, g.Cols)[3:8], near(roll, g.Rows)[3:8], []int{1, roll(g.Cols)})
		tryClear(t, g, three, near(roll, g.Cols*g.Rows)[1:])
		tryScroll(t, g, three, near(roll, g.Rows)[1:7], near(roll, g.Rows))
		tryResize(t, g, near(roll, g.Cols), near(roll, g.Rows)[1:7])
	}
}

// P9.1: what is refused

// each makes every call that answers a grid where it would change something and where it wouldn't.
func each(g grid.Grid, p api.Pen) []grid.Grid {
	return []grid.Grid{
		grid.Put(g, 0, 0, 'c', p), grid.Put(g, 1, 1, 0x4E00, p), grid.Put(g, 0, 0, 0, p), grid.Put(g, -1, 0, 'c', p), grid.Put(g, 0, -1, 'c', p), grid.Put(g, 0, math.MaxInt, 'c', p),
		grid.Clear(g, 1, 4, p), grid.Clear(g, 4, 1, p), grid.Clear(g, math.MinInt, math.MaxInt, p),
		grid.Insert(g, 1, 1, 1, p), grid.Insert(g, 0, 0, 0, p), grid.Insert(g, 0, 99, 1, p), grid.Insert(g, -1, 0, 1, p), grid.Insert(g, 0, 0, math.MaxInt, p),
		grid.Delete(g, 1, 1, 1, p), grid.Delete(g, 0, 0, 0, p), grid.Delete(g, 0, 99, 1, p), grid.Delete(g, -1, 0, 1, p), grid.Delete(g, 0, 0, math.MaxInt, p),
		grid.Scroll(g, 0, 1, 1, p), grid.Scroll(g, 0, 0, 0, p), grid.Scroll(g, 0, 1, -1, p), grid.Scroll(g, -1, 0, 1, p), grid.Scroll(g, 0, 99, 1, p), grid.Scroll(g, 1, 0, 1, p), grid.Scroll(g, 0, 1, math.MinInt, p),
	}
}

// sizes makes the calls that answer a grid and ask for no pen.
func sizes(g grid.Grid) []grid.Grid {
	return []grid.Grid{grid.Resize(g, g.Cols, g.Rows), grid.Resize(g, 1, 1), grid.Resize(g, 2, 3), grid.Resize(g, mostCols, mostRows), grid.Resize(g, 0, 0)}
}

func TestGridsThatMayNotBe(t *testing.T) {
	l := line(strings.Repeat("a", mostCols*mostRows+mostCols))
	grids := []grid.Grid{
		{}, {Cols: 1}, {Rows: 1}, {Cols: 1, Rows: 1}, {Cols: 0, Rows: 0, Cells: l[:1]}, {Cols: 1, Rows: 1, Cells: l[:0]}, {Cols: 1, Rows: 1, Cells: l[:2]}, {Cols: 2, Rows: 2, Cells: l[:3]}, {Cols: 2, Rows: 2, Cells: l[:5]},
		{Cols: 0, Rows: 1, Cells: l[:1]}, {Cols: 1, Rows: 0, Cells: l[:1]}, {Cols: -1, Rows: -1, Cells: l[:1]}, {Cols: -2, Rows: -2, Cells: l[:4]}, {Cols: -2, Rows: 2, Cells: l[:4]}, {Cols: 2, Rows: 3, Cells: l[:4]}, {Cols: 4, Rows: 2, Cells: l[:4]},
		{Cols: mostCols + 1, Rows: 1, Cells: l[:mostCols+1]}, {Cols: 1, Rows: mostRows + 1, Cells: l[:mostRows+1]}, {Cols: mostCols, Rows: mostRows + 1, Cells: l}, {Cols: mostRows, Rows: mostCols, Cells: l[:mostCols*mostRows]},
		{Cols: math.MinInt, Rows: 2}, {Cols: math.MinInt, Rows: math.MinInt}, {Cols: math.MaxInt, Rows: math.MaxInt, Cells: l[:1]}, {Cols: 2, Rows: math.MinInt}, {Cols: 1 << 32, Rows: 1 << 32},
		spell("V"), spell("V/>"), spell("aV/>a"), spell("aa/aV/>a"), spell("aa/V]"), spell("aa/a?"), spell(">a/aa"),
		{Cols: 2, Rows: 2, Cells: []api.Cell{spelt('a'), spelt('a'), spelt('a'), {Rune: 'a', Pen: api.Pen{Fg: 257}}}},
	}
	for _, g := range grids {
		if grid.May(g) {
			t.Error(show(g), "may be")
		}
		for i, got := range append(each(g, three), sizes(g)...) {
			none(t, call{"call " + strconv.Itoa(i), g, 0, 0, 0}, got)
		}
		for _, y := range []int{math.MinInt, -1, 0, 1, g.Rows - 1, math.MaxInt} {
			if got := grid.Row(g, y); len(got) != 0 {
				t.Error(call{"Row", g, y, 0, 0}, "answered", told(got))
			}
		}
	}
}

func TestPensThatMayNot(t *testing.T) {
	for _, p := range badPens() {
		for _, text := range []string{"a", "V>/U]", "aV>/U]d/V>2"} {
			for i, got := range each(spell(text), p) {
				none(t, call{"call " + strconv.Itoa(i), spell(text), 0, 0, 0}, got)
			}
		}
	}
}

// P9.2: grids that are answered are handed in again, over and over.

func TestWhole(t *testing.T) {
	roll := rolls(92)
	for range 60 {
		g := anyGrid(roll)
		for range 60 {
			cols, rows := g.Cols, g.Rows
			p := []api.Pen{{}, one, two, three}[roll(4)]
			x, y, n := roll(cols+4)-2, roll(rows+4)-2, roll(9)-4
			switch roll(6) {
			case 0:
				g = grid.Put(g, x, y, []rune{'c', 0x4E00, 0x1F600, 0}[roll(4)], p)
			case 1:
				from := roll(cols * rows)
				g = grid.Clear(g, from, from+roll(3*cols), p)
			case 2:
				g = grid.Insert(g, x, y, n, p)
			case 3:
				g = grid.Delete(g, x, y, n, p)
			case 4:
				g = grid.Scroll(g, y, y+n, n/2, p)
			case 5:
				cols, rows = min(max(cols+roll(5)-2, 1), mostCols), min(max(rows+roll(5)-2, 1), mostRows)
				g = grid.Resize(g, cols, rows)
			}
			if g.Cols != cols || g.Rows != rows || !grid.May(g) {
				t.Fatal("there is", show(g), "and not one of", cols, rows)
			}
		}
	}
}

// P9.3

func TestThereAndBack(t *testing.T) {
	for _, g := range smalls() {
		for cols := g.Cols; cols <= g.Cols+3; cols++ {
			for rows := g.Rows; rows <= g.Rows+3; rows++ {
				thereAndBack(t, g, cols, rows)
			}
		}
		thereAndBack(t, g, mostCols, mostRows)
	}
	roll := rolls(93)
	for range 300 {
		g := anyGrid(roll)
		thereAndBack(t, g, g.Cols+roll(mostCols-g.Cols+1), g.Rows+roll(mostRows-g.Rows+1))
		thereAndBack(t, g, mostCols, mostRows)
	}
}

func thereAndBack(t *testing.T, g grid.Grid, cols, rows int) {
	t.Helper()
	check(t, call{"Resize there and back", g, cols, rows, 0}, grid.Resize(grid.Resize(g, cols, rows), g.Cols, g.Rows), g)
}

// R2

func TestSameAgain(t *testing.T) {
	g := spell("aV>bU]/.2W>ad/bbV>V>")
	want := append(each(g, three), sizes(g)...)
	var all sync.WaitGroup
	got := make([][]grid.Grid, 8)
	for i := range got {
		all.Go(func() {
			for range 20 {
				got[i] = append(each(g, three), sizes(g)...)
			}
		})
	}
	all.Wait()
	for _, l := range got {
		for i := range want {
			if !same(l[i], want[i]) {
				t.Fatal(i, "answered", show(l[i]), "and not", show(want[i]))
			}
		}
	}
}

// R3

func TestHandedInStays(t *testing.T) {
	for _, text := range []string{"aV>bU]/.2W>ad/bbV>V>", "V/>", "aa/V]", "V"} {
		g := spell(text)
		room := append(slices.Clone(g.Cells), line("VcU)")...)
		kept := slices.Clone(room)
		g.Cells = room[:len(g.Cells)]
		grid.May(g)
		grid.Row(g, 0)
		grid.Row(g, g.Rows-1)
		each(g, three)
		sizes(g)
		if !slices.Equal(room, kept) {
			t.Error(told(kept), "became", told(room))
		}
	}
}

func TestNewMemory(t *testing.T) {
	g := spell("aV>bU]/.2W>ad/bbV>V>")
	room := append(slices.Clone(g.Cells), line("cccccccc")...)
	kept := slices.Clone(room)
	g.Cells = room[:len(g.Cells)]
	rows := func() []grid.Grid {
		blank, _ := grid.New(3, 2)
		return []grid.Grid{blank, {Cells: grid.Row(g, 0)}, {Cells: grid.Row(g, 1)}, {Cells: grid.Row(g, 2)}, {Cells: grid.Row(g, 0)}}
	}
	got := slices.Concat(each(g, three), sizes(g), rows())
	want := slices.Concat(each(g, three), sizes(g), rows())
	for i := range got {
		written := got[i].Cells[:cap(got[i].Cells)]
		for j := range written {
			written[j] = spelt('X')
		}
		if !slices.Equal(room, kept) {
			t.Fatal(i, "shares what was handed in")
		}
		for j := i + 1; j < len(got); j++ {
			if !same(got[j], want[j]) {
				t.Fatal(i, "shares what", j, "answered")
			}
		}
	}
}

func TestAnswersStay(t *testing.T) {
	g := spell("aV>bU]/.2W>ad/bbV>V>")
	h := copyOf(g)
	row := grid.Row(g, 1)
	got := append(each(g, three), sizes(g)...)
	want := append(each(h, three), sizes(h)...)
	for i := range g.Cells {
		g.Cells[i] = spelt('X')
	}
	for i := range got {
		if !same(got[i], want[i]) {
			t.Fatal(i, "answered", show(got[i]), "and not", show(want[i]))
		}
	}
	if !slices.Equal(row, grid.Row(h, 1)) {
		t.Fatal("Row answered", told(row))
	}
}

// R4

func TestNoCells(t *testing.T) {
	for _, l := range [][]api.Cell{nil, {}, line("abc")[:0]} {
		for _, cols := range []int{0, 1, mostCols} {
			for _, rows := range []int{0, 1, mostRows} {
				g := grid.Grid{Cols: cols, Rows: rows, Cells: l}
				if grid.May(g) || len(grid.Row(g, 0)) != 0 {
					t.Fatal("no cells may be a grid of", cols, rows)
				}
				for i, got := range append(each(g, three), sizes(g)...) {
					none(t, call{"call " + strconv.Itoa(i), g, 0, 0, 0}, got)
				}
			}
		}
	}
}
