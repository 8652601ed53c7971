package cell_test

import (
	"math"
	"slices"
	"strconv"
	"strings"
	"sync"
	"testing"

	"spyglass/api"
	"spyglass/cell"
)

// most is how many cells a row has at most.
const most = 80

// rgb is what a colour of three parts has more.
const rgb = 1 << 24

// Three pens with everything set, no two of which have the same blank; rows are of the first two, and what is done to them is done with the third.
var (
	one   = api.Pen{Fg: 1, Bg: 2, Attrs: 1, Link: 1}
	two   = api.Pen{Fg: 256, Bg: rgb, Attrs: 255, Link: math.MaxUint16}
	three = api.Pen{Fg: rgb + 0xFFFFFF, Bg: 256, Attrs: 128, Link: 7}
)

// spelt tells for which cell a letter of these tests stands.
func spelt(letter rune) api.Cell {
	switch letter {
	case '.':
		return api.Cell{Rune: 32}
	case '1':
		return api.Cell{Rune: 32, Pen: api.Pen{Bg: 2}}
	case '2':
		return api.Cell{Rune: 32, Pen: api.Pen{Bg: rgb}}
	case '3':
		return api.Cell{Rune: 32, Pen: api.Pen{Bg: 256}}
	case 'a':
		return api.Cell{Rune: 'a', Pen: one}
	case 'b':
		return api.Cell{Rune: 'b', Pen: two}
	case 'c':
		return api.Cell{Rune: 'c', Pen: three}
	case 'V':
		return api.Cell{Rune: 0x4E00, Wide: 1, Pen: one}
	case 'W':
		return api.Cell{Rune: 0x1F600, Wide: 1, Pen: one}
	case '>':
		return api.Cell{Wide: 2, Pen: one}
	case 'U':
		return api.Cell{Rune: 0x4E00, Wide: 1, Pen: two}
	case ']':
		return api.Cell{Wide: 2, Pen: two}
	case 'X':
		return api.Cell{Rune: 0x4E00, Wide: 1, Pen: three}
	case ')':
		return api.Cell{Wide: 2, Pen: three}
	}
	return api.Cell{Rune: -1, Wide: 3}
}

// letters are all those that stand for cells that may be.
const letters = ".123abcVW>U]X)"

// row answers the cells for which letters stand.
func row(text string) []api.Cell {
	var l []api.Cell
	for _, letter := range text {
		l = append(l, spelt(letter))
	}
	return l
}

// show tells cells by their letters.
func show(l []api.Cell) string {
	var s strings.Builder
	for _, c := range l {
		i := slices.IndexFunc([]rune(letters), func(letter rune) bool { return spelt(letter) == c })
		if i < 0 {
			s.WriteString("(" + strconv.Itoa(int(c.Rune)) + " " + strconv.Itoa(int(c.Wide)) + ")")
			continue
		}
		s.WriteByte(letters[i])
	}
	return strconv.Quote(s.String())
}

// rolls answers numbers that look like none in particular, the same ones each time.
func rolls(seed uint64) func(below int) int {
	return func(below int) int {
		seed = seed*6364136223846793005 + 1442695040888963407
		return int((seed >> 33) % uint64(below))
	}
}

// wholes are the texts of all rows that may be of so many cells, made of narrow letters and of wide ones, two of one pen.
func wholes(cells int) []string {
	if cells == 0 {
		return []string{""}
	}
	var l []string
	for _, rest := range wholes(cells - 1) {
		l = append(l, "."+rest, "a"+rest)
	}
	if cells > 1 {
		for _, rest := range wholes(cells - 2) {
			l = append(l, "V>"+rest, "W>"+rest, "U]"+rest)
		}
	}
	return l
}

// all are the texts of all rows of so many cells, whatever stands beside what.
func all(cells int, of string) []string {
	if cells == 0 {
		return []string{""}
	}
	var l []string
	for _, rest := range all(cells-1, of) {
		for _, letter := range of {
			l = append(l, string(letter)+rest)
		}
	}
	return l
}

// some answers the text of a row that may be of so many cells.
func some(roll func(int) int, cells int) string {
	var s strings.Builder
	for s.Len() < cells {
		part := []string{".", "a", "b", "2", "V>", "W>", "U]"}[roll(7)]
		if s.Len()+len(part) <= cells {
			s.WriteString(part)
		}
	}
	return s.String()
}

// wantRow tells whether a row of few letters may be: nothing but narrow ones and whole wide ones.
func wantRow(text string) bool {
	if text == "" {
		return false
	}
	for _, wide := range []string{"V>", "W>", "U]", "X)"} {
		text = strings.ReplaceAll(text, wide, "..")
	}
	return strings.Trim(text, ".123abc") == ""
}

// piece is a cell, and to which wide letter it belongs; 0 is none.
type piece struct {
	cell   api.Cell
	letter int
}

// pieces tells of a row that may be which halves belong together.
func pieces(l []api.Cell) []piece {
	var m []piece
	for i, c := range l {
		switch c.Wide {
		case 0:
			m = append(m, piece{c, 0})
		case 1:
			m = append(m, piece{c, i + 1})
		case 2:
			m = append(m, piece{c, i})
		}
	}
	return m
}

// blanks are so many of a pen.
func blanks(n int, p api.Pen) []piece {
	return slices.Repeat([]piece{{api.Cell{Rune: 32, Pen: api.Pen{Bg: p.Bg}}, 0}}, n)
}

// mended makes blanks of the halves without their own other ones.
func mended(m []piece) []api.Cell {
	l := make([]api.Cell, len(m))
	for i, x := range m {
		l[i] = x.cell
		alone := x.cell.Wide == 1 && (i+1 == len(m) || m[i+1].letter != x.letter) || x.cell.Wide == 2 && (i == 0 || m[i-1].letter != x.letter)
		if alone {
			l[i] = api.Cell{Rune: 32, Pen: api.Pen{Bg: x.cell.Pen.Bg}}
		}
	}
	return l
}

// width is how many columns the runes of these tests take.
func width(r rune) int {
	switch r {
	case 'c', ' ', 0x20AC:
		return 1
	case 0x4E00, 0x1F600:
		return 2
	}
	return 0
}

// wantPut is what Put has to answer for a row that may be and a pen that may.
func wantPut(l []api.Cell, x int, r rune, p api.Pen) []api.Cell {
	w := width(r)
	if x < 0 || x >= len(l) || w == 0 || w == 2 && x == len(l)-1 {
		return l
	}
	letter := []piece{{api.Cell{Rune: r, Pen: p}, 0}}
	if w == 2 {
		letter = []piece{{api.Cell{Rune: r, Wide: 1, Pen: p}, 1000}, {api.Cell{Wide: 2, Pen: p}, 1000}}
	}
	m := pieces(l)
	return mended(slices.Concat(m[:x], letter, m[x+w:]))
}

// wantErase is what Erase has to answer, likewise.
func wantErase(l []api.Cell, from, to int, p api.Pen) []api.Cell {
	m := pieces(l)
	for i := range m {
		if i >= from && i < to {
			m[i] = blanks(1, p)[0]
		}
	}
	return mended(m)
}

// wantInsert is what Insert has to answer, likewise.
func wantInsert(l []api.Cell, x, n int, p api.Pen) []api.Cell {
	if x < 0 || x >= len(l) || n < 1 {
		return l
	}
	m := pieces(l)
	return mended(slices.Concat(m[:x], blanks(min(n, len(l)), p), m[x:])[:len(l)])
}

// wantDelete is what Delete has to answer, likewise.
func wantDelete(l []api.Cell, x, n int, p api.Pen) []api.Cell {
	if x < 0 || x >= len(l) || n < 1 {
		return l
	}
	m := append(pieces(l), blanks(len(l), p)...)
	return mended(slices.Concat(m[:x], m[x+min(n, len(l)-x):])[:len(l)])
}

// extremes are numbers that no row has places for.
func extremes() []int {
	return []int{math.MinInt, math.MinInt + 1, math.MinInt + most, math.MinInt32 - 1, math.MinInt32, -most - 1, -most, math.MaxInt32, math.MaxInt32 + 1, math.MaxInt - most, math.MaxInt - 1, math.MaxInt}
}

// around are numbers from below 0 to beyond a row's places, and the extremes.
func around(cells int) []int {
	l := extremes()
	for n := -2; n <= cells+2; n++ {
		l = append(l, n)
	}
	return l
}

// runes are of the Widths 0, 1 and 2.
func runes() []rune { return []rune{0, 31, 0x301, -1, 0xD800, 0x110000, 'c', ' ', 0x4E00, 0x1F600} }

// check holds an answer against what it has to be.
func check(t *testing.T, told string, got, want []api.Cell) {
	t.Helper()
	if !slices.Equal(got, want) {
		t.Fatal(told, "answered", show(got), "and not", show(want))
	}
}

// call is one that was made: its name, the row, and two numbers.
type call struct {
	name string
	row  []api.Cell
	x, n int
}

func (c call) String() string {
	return c.name + " " + strconv.Itoa(c.x) + " " + strconv.Itoa(c.n) + " of " + show(c.row)
}

// P8.1: colours

func TestColorMay(t *testing.T) {
	for c, want := range map[api.Color]bool{
		0: true, 1: true, 8: true, 255: true, 256: true, 257: false, 258: false, 512: false, 65535: false, 65536: false,
		rgb - 256: false, rgb - 1: false, rgb: true, rgb + 1: true, rgb + 256: true, rgb + 0xFFFFFE: true, rgb + 0xFFFFFF: true,
		2 * rgb: false, 2*rgb + 1: false, 3 * rgb: false, 1 << 31: false, 1<<31 + rgb: false, math.MaxUint32 - 1: false, math.MaxUint32: false,
	} {
		if cell.ColorMay(c) != want {
			t.Error(c, "may be:", !want)
		}
	}
}

func TestColorMayOfMany(t *testing.T) {
	for high := range 256 {
		for low := range 1 << 11 {
			for _, c := range []uint32{uint32(high<<24 + low), uint32(high<<24 + 1<<24 - 1 - low), uint32(high<<24 + low<<13)} {
				want := high == 1 || c <= 256
				if cell.ColorMay(api.Color(c)) != want {
					t.Fatal(c, "may be:", !want)
				}
			}
		}
	}
}

// P8.1: cells

func TestMay(t *testing.T) {
	widths := [3][]rune{
		{0, 1, 27, 31, 127, 159, 0x300, 0x301, 0x36F, 0x200B, 0xFE0F, -1, -32, 0xD800, 0xDFFF, 0x110000, math.MaxInt32, math.MinInt32},
		{32, '!', 'a', '~', 160, 0xE9, 0x20AC, 0xFFFD, 0x1F650, 0x10FFFF},
		{0x1100, 0x115F, 0x2E80, 0x4E00, 0xAC00, 0xFF01, 0x1F300, 0x1F600, 0x3FFFD},
	}
	for w, runes := range widths {
		for _, r := range runes {
			for wide := range 256 {
				for _, x := range pens() {
					c := api.Cell{Rune: r, Wide: uint8(wide), Pen: x.pen}
					want := x.may && (wide == 0 && w == 1 || wide == 1 && w == 2 || wide == 2 && r == 0)
					if cell.May(c) != want {
						t.Fatal(c, "may be:", !want)
					}
				}
			}
		}
	}
}

// pens are some that may be, and some that may not.
func pens() []struct {
	pen api.Pen
	may bool
} {
	return []struct {
		pen api.Pen
		may bool
	}{
		{api.Pen{}, true},
		{one, true},
		{two, true},
		{three, true},
		{api.Pen{Attrs: 255, Link: math.MaxUint16}, true},
		{api.Pen{Fg: 256, Bg: 256}, true},
		{api.Pen{Fg: rgb, Bg: rgb + 0xFFFFFF}, true},
		{api.Pen{Fg: 257}, false},
		{api.Pen{Bg: 257}, false},
		{api.Pen{Fg: 257, Bg: 257}, false},
		{api.Pen{Fg: rgb - 1, Bg: rgb}, false},
		{api.Pen{Fg: rgb, Bg: rgb - 1}, false},
		{api.Pen{Fg: 2 * rgb, Bg: 1}, false},
		{api.Pen{Fg: 1, Bg: 2 * rgb}, false},
		{api.Pen{Fg: math.MaxUint32, Bg: math.MaxUint32, Attrs: 255, Link: 1}, false},
	}
}

func TestBlank(t *testing.T) {
	for _, x := range pens() {
		want := api.Cell{Rune: 32, Wide: 0, Pen: api.Pen{Bg: x.pen.Bg}}
		if got := cell.Blank(x.pen); got != want {
			t.Error("the blank of", x.pen, "is", got)
		}
	}
}

// P8.1: rows

func TestRowMay(t *testing.T) {
	for text, want := range map[string]bool{
		"": false, ".": true, "a": true, "ab2": true,
		"V>": true, "V>.": true, ".V>": true, "aV>b": true, "V>W>": true, "V>V>": true, "V>U]V>": true,
		"V": false, ">": false, "aV": false, "V.": false, "a>": false, ">a": false, ".>.": false, ".V.": false, "V.>": false,
		">V": false, ">V>": false, "V>>": false, "VV>": false, "VV>>": false, "V>V": false, "V>>V>": false, "V>V>>": false,
		"V]": false, "U>": false, "V]U>": false, "V>U": false, "aV>]": false,
		"?": false, ".?": false, "?.": false, "V>?": false, "V?": false,
	} {
		if cell.RowMay(row(text)) != want {
			t.Error(show(row(text)), "may be:", !want)
		}
	}
	if cell.RowMay(nil) || cell.RowMay([]api.Cell{}) {
		t.Error("a row of no cells may be")
	}
}

func TestRowMayOfHalvesThatDiffer(t *testing.T) {
	left := api.Cell{Rune: 0x4E00, Wide: 1, Pen: one}
	for _, p := range []api.Pen{{Fg: 2, Bg: 2, Attrs: 1, Link: 1}, {Fg: 1, Bg: 1, Attrs: 1, Link: 1}, {Fg: 1, Bg: 2, Attrs: 3, Link: 1}, {Fg: 1, Bg: 2, Attrs: 1, Link: 2}, {}} {
		if l := []api.Cell{left, {Wide: 2, Pen: p}}; cell.RowMay(l) {
			t.Error("a right half may be of the pen", p)
		}
	}
	for _, r := range []rune{0x4E00, 32, 1, -1} {
		if l := []api.Cell{left, {Rune: r, Wide: 2, Pen: one}}; cell.RowMay(l) {
			t.Error("a right half may have the rune", r)
		}
	}
}

func TestRowMayOfPens(t *testing.T) {
	for _, x := range pens() {
		for i := range 6 {
			l := row(".V>aV>")
			l[i].Pen = x.pen
			// A half keeps to its other one.
			switch l[i].Wide {
			case 1:
				l[i+1].Pen = x.pen
			case 2:
				l[i-1].Pen = x.pen
			}
			if cell.RowMay(l) != x.may {
				t.Error("a row with the pen", x.pen, "at", i, "may be:", !x.may)
			}
		}
	}
}

func TestRowMayOfLengths(t *testing.T) {
	for n := 0; n <= 3*most; n++ {
		want := n >= 1 && n <= most
		if cell.RowMay(row(strings.Repeat("a", n))) != want {
			t.Error(n, "narrow cells may be:", !want)
		}
		wide := row(strings.Repeat("V>", n/2) + strings.Repeat("a", n%2))
		if cell.RowMay(wide) != want {
			t.Error(n, "cells of wide letters may be:", !want)
		}
	}
	for text, want := range map[string]bool{
		strings.Repeat("a", most-2) + "V>": true, strings.Repeat("a", most-1) + "V": false, strings.Repeat("a", most-1) + "V>": false,
		"V>" + strings.Repeat("a", most-2): true, ">" + strings.Repeat("a", most-1): false, strings.Repeat("a", most-1) + ">": false,
	} {
		if cell.RowMay(row(text)) != want {
			t.Error(text, "may be:", !want)
		}
	}
}

func TestRowMayOfAllShortRows(t *testing.T) {
	for cells := range 6 {
		for _, text := range all(cells, ".aVW>U]?") {
			if cell.RowMay(row(text)) != wantRow(text) {
				t.Fatal(text, "may be:", !wantRow(text))
			}
		}
	}
}

// P8.1: what is written

func TestExamples(t *testing.T) {
	l := cell.Put(row("...."), 1, 0x4E00, three)
	check(t, "wide", l, row(".X)."))
	check(t, "narrow", cell.Put(l, 2, 'c', three), row(".3c."))
	check(t, "last", cell.Put(row("...."), 3, 0x4E00, three), row("...."))
	check(t, "last of wide", cell.Put(l, 3, 0x4E00, three), row(".X)."))

	l = cell.Put(row("...."), 1, 0x4E00, api.Pen{})
	check(t, "zero pen", l, []api.Cell{{Rune: 32}, {Rune: 0x4E00, Wide: 1}, {Wide: 2}, {Rune: 32}})
	check(t, "zero pen, narrow", cell.Put(l, 2, 'a', api.Pen{}), []api.Cell{{Rune: 32}, {Rune: 32}, {Rune: 'a'}, {Rune: 32}})
}

func TestPut(t *testing.T) {
	for i, x := range []struct {
		text string
		at   int
		r    rune
		want string
	}{
		{".", 0, 'c', "c"}, {".", 0, 0x4E00, "."}, {".", 1, 'c', "."}, {".", -1, 'c', "."},
		{"ab", 0, 'c', "cb"}, {"ab", 1, 'c', "ac"}, {"ab", 0, 0x4E00, "X)"}, {"ab", 1, 0x4E00, "ab"}, {"ab", 2, 0x4E00, "ab"}, {"ab", -1, 0x4E00, "ab"},
		{"aV>b", 0, 'c', "cV>b"}, {"aV>b", 1, 'c', "ac1b"}, {"aV>b", 2, 'c', "a1cb"}, {"aV>b", 3, 'c', "aV>c"},
		{"aV>b", 0, 0x4E00, "X)1b"}, {"aV>b", 1, 0x4E00, "aX)b"}, {"aV>b", 2, 0x4E00, "a1X)"}, {"aV>b", 3, 0x4E00, "aV>b"},
		{"V>U]", 1, 0x4E00, "1X)2"}, {"V>V>", 1, 0x4E00, "1X)1"}, {"V>U]", 0, 0x4E00, "X)U]"}, {"V>U]", 2, 0x4E00, "V>X)"}, {"V>U]", 3, 0x4E00, "V>U]"},
		{"V>U]", 1, 'c', "1cU]"}, {"V>U]", 2, 'c', "V>c2"}, {"V>U]", 3, 'c', "V>2c"},
		{"V>U]", 1, 0, "V>U]"}, {"V>U]", 1, 0x301, "V>U]"}, {"V>U]", 1, 31, "V>U]"}, {"V>U]", 1, -1, "V>U]"}, {"V>U]", 1, 0xD800, "V>U]"}, {"V>U]", 1, 0x110000, "V>U]"},
	} {
		check(t, strconv.Itoa(i), cell.Put(row(x.text), x.at, x.r, three), row(x.want))
	}
	// A space that is put is no blank: it keeps its whole pen.
	check(t, "a space", cell.Put(row("aV>b"), 2, ' ', three), []api.Cell{spelt('a'), spelt('1'), {Rune: 32, Pen: three}, spelt('b')})
}

func TestErase(t *testing.T) {
	for i, x := range []struct {
		text     string
		from, to int
		want     string
	}{
		{"a", 0, 1, "3"}, {"a", 0, 0, "a"}, {"a", 1, 1, "a"}, {"a", 1, 0, "a"}, {"a", -1, 0, "a"}, {"a", -5, 5, "3"}, {"a", 1, 2, "a"},
		{"aV>b", 0, 1, "3V>b"}, {"aV>b", 0, 2, "331b"}, {"aV>b", 2, 3, "a13b"}, {"aV>b", 1, 2, "a31b"}, {"aV>b", 1, 3, "a33b"}, {"aV>b", 2, 4, "a133"}, {"aV>b", 3, 9, "aV>3"},
		{"aV>b", 2, 2, "aV>b"}, {"aV>b", 2, 1, "aV>b"}, {"aV>b", 3, 2, "aV>b"}, {"aV>b", 4, 9, "aV>b"}, {"aV>b", 9, 2, "aV>b"}, {"aV>b", -9, 0, "aV>b"}, {"aV>b", -9, 2, "331b"},
		{"V>U]", 1, 3, "1332"}, {"V>V>", 1, 3, "1331"}, {"V>aU]", 1, 4, "13332"}, {"V>U]", 0, 4, "3333"}, {"V>U]", 1, 2, "13U]"}, {"V>U]", 2, 3, "V>32"},
	} {
		check(t, strconv.Itoa(i), cell.Erase(row(x.text), x.from, x.to, three), row(x.want))
	}
}

func TestInsert(t *testing.T) {
	for i, x := range []struct {
		text  string
		at, n int
		want  string
	}{
		{"a", 0, 1, "3"}, {"a", 0, 9, "3"}, {"a", 0, 0, "a"}, {"a", 1, 1, "a"}, {"a", -1, 1, "a"},
		{"aab2", 0, 1, "3aab"}, {"aab2", 1, 2, "a33a"}, {"aab2", 3, 1, "aab3"}, {"aab2", 2, 2, "aa33"}, {"aab2", 2, 3, "aa33"}, {"aab2", 1, -1, "aab2"}, {"aab2", 4, 1, "aab2"},
		{"V>ab", 0, 1, "3V>a"}, {"V>ab", 1, 1, "131a"}, {"V>ab", 1, 2, "1331"}, {"V>ab", 1, 3, "1333"}, {"V>ab", 2, 1, "V>3a"}, {"V>ab", 0, 2, "33V>"}, {"V>ab", 0, 3, "3331"}, {"V>ab", 0, 4, "3333"},
		{"aU]", 0, 1, "3a2"}, {"aU]", 0, 2, "33a"}, {"aU]", 1, 1, "a32"}, {"aU]", 2, 1, "a23"}, {"aU]", 1, 2, "a33"},
		{"V>U]", 1, 1, "1312"}, {"V>V>", 1, 2, "1331"}, {"V>V>", 2, 1, "V>31"},
	} {
		check(t, strconv.Itoa(i), cell.Insert(row(x.text), x.at, x.n, three), row(x.want))
	}
}

func TestDelete(t *testing.T) {
	for i, x := range []struct {
		text  string
		at, n int
		want  string
	}{
		{"a", 0, 1, "3"}, {"a", 0, 9, "3"}, {"a", 0, 0, "a"}, {"a", 1, 1, "a"}, {"a", -1, 1, "a"},
		{"aab2", 0, 1, "ab23"}, {"aab2", 1, 2, "a233"}, {"aab2", 3, 1, "aab3"}, {"aab2", 2, 2, "aa33"}, {"aab2", 2, 3, "aa33"}, {"aab2", 1, -1, "aab2"}, {"aab2", 4, 1, "aab2"},
		{"V>ab", 0, 1, "1ab3"}, {"V>ab", 1, 1, "1ab3"}, {"V>ab", 1, 2, "1b33"}, {"V>ab", 1, 9, "1333"}, {"V>ab", 0, 2, "ab33"}, {"V>ab", 2, 1, "V>b3"},
		{"aU]", 0, 1, "U]3"}, {"aU]", 0, 2, "233"}, {"aU]", 1, 1, "a23"}, {"aU]", 2, 1, "a23"}, {"aU]", 1, 2, "a33"},
		// What stands side by side at last are halves of one pen, but not of one letter.
		{"V>W>", 1, 2, "1133"}, {"V>V>", 1, 2, "1133"}, {"V>aV>", 1, 3, "11333"}, {"V>V>V>", 1, 4, "113333"}, {"V>V>", 1, 1, "1V>3"}, {"V>U]", 1, 2, "1233"},
	} {
		check(t, strconv.Itoa(i), cell.Delete(row(x.text), x.at, x.n, three), row(x.want))
	}
}

// tryAll holds all calls, with all numbers, against what they have to answer for one row.
func tryAll(t *testing.T, l []api.Cell, p api.Pen, numbers []int) {
	t.Helper()
	for _, x := range numbers {
		for _, r := range runes() {
			whole(t, call{"Put", l, x, int(r)}, cell.Put(l, x, r, p), wantPut(l, x, r, p))
		}
		for _, n := range numbers {
			whole(t, call{"Erase", l, x, n}, cell.Erase(l, x, n, p), wantErase(l, x, n, p))
			whole(t, call{"Insert", l, x, n}, cell.Insert(l, x, n, p), wantInsert(l, x, n, p))
			whole(t, call{"Delete", l, x, n}, cell.Delete(l, x, n, p), wantDelete(l, x, n, p))
		}
	}
}

// whole holds a row against what it has to be, and asks whether it may be (P8.2).
func whole(t *testing.T, made call, got, want []api.Cell) {
	t.Helper()
	if !slices.Equal(got, want) {
		t.Fatal(made, "answered", show(got), "and not", show(want))
	}
	if !cell.RowMay(got) {
		t.Fatal(made, "answered", show(got), "which may not be")
	}
}

// P8.1, P8.2

func TestAllShortRows(t *testing.T) {
	for cells := 1; cells <= 5; cells++ {
		for _, text := range wholes(cells) {
			tryAll(t, row(text), three, around(cells))
		}
	}
}

// What is done with a pen that the row has already isn't taken for a part of it.
func TestPensOfTheRow(t *testing.T) {
	for _, text := range wholes(4) {
		tryAll(t, row(text), one, around(4))
		tryAll(t, row(text), two, around(4))
		tryAll(t, row(text), api.Pen{}, around(4))
	}
}

func TestLongRows(t *testing.T) {
	roll := rolls(8)
	for range 60 {
		cells := 1 + roll(most)
		if roll(4) == 0 {
			cells = most
		}
		numbers := append(extremes(), -1, 0, 1, 2, cells-2, cells-1, cells, cells+1)
		for range 12 {
			numbers = append(numbers, roll(cells+1))
		}
		tryAll(t, row(some(roll, cells)), three, numbers)
	}
}

// P8.1: what is refused

func TestRowsThatMayNotBe(t *testing.T) {
	rows := [][]api.Cell{nil, {}, row(strings.Repeat("a", most+1)), row(strings.Repeat("V>", most)), row(strings.Repeat("a", most-1) + "V")}
	for cells := range 5 {
		for _, text := range all(cells, ".aV>U]?") {
			if !wantRow(text) {
				rows = append(rows, row(text))
			}
		}
	}
	for _, l := range rows {
		refused(t, l, three)
	}
}

func TestPensThatMayNot(t *testing.T) {
	for _, x := range pens() {
		if !x.may {
			for _, text := range []string{".", "a", "V>", "aV>b"} {
				refused(t, row(text), x.pen)
			}
		}
	}
}

// refused asks each call for an answer where there is none, where something would be written and where nothing would.
func refused(t *testing.T, l []api.Cell, p api.Pen) {
	t.Helper()
	for _, x := range []int{math.MinInt, -1, 0, 1, len(l) - 1, len(l), math.MaxInt} {
		for _, r := range []rune{'c', 0x4E00, 0} {
			none(t, call{"Put", l, x, int(r)}, cell.Put(l, x, r, p))
		}
		for _, n := range []int{math.MinInt, -1, 0, 1, 2, len(l), math.MaxInt} {
			none(t, call{"Erase", l, x, n}, cell.Erase(l, x, n, p))
			none(t, call{"Insert", l, x, n}, cell.Insert(l, x, n, p))
			none(t, call{"Delete", l, x, n}, cell.Delete(l, x, n, p))
		}
	}
}

func none(t *testing.T, made call, got []api.Cell) {
	t.Helper()
	if len(got) != 0 {
		t.Fatal(made, "answered", show(got), "and not none")
	}
}

// P8.2: rows that are answered are handed in again, over and over.

func TestWholeLetters(t *testing.T) {
	roll := rolls(82)
	for range 200 {
		cells := 1 + roll(most)
		l := row(some(roll, cells))
		for range 200 {
			p := []api.Pen{{}, one, two, three}[roll(4)]
			x, n := roll(cells+4)-2, roll(cells+4)-2
			switch roll(4) {
			case 0:
				l = cell.Put(l, x, runes()[roll(len(runes()))], p)
			case 1:
				l = cell.Erase(l, x, x+n%5, p)
			case 2:
				l = cell.Insert(l, x, n%5, p)
			case 3:
				l = cell.Delete(l, x, n%5, p)
			}
			if len(l) != cells || !cell.RowMay(l) {
				t.Fatal("there is", show(l))
			}
		}
	}
}

// P8.3

// leftAlone asks whether all but what lies from a place up to another one stayed, but for other halves.
func leftAlone(t *testing.T, made call, after []api.Cell, from, to int) {
	t.Helper()
	before := made.row
	for i := range before {
		if i >= from && i < to {
			continue
		}
		cut := i == from-1 && before[i].Wide == 1 || i == to && before[i].Wide == 2
		want := before[i]
		if cut {
			want = api.Cell{Rune: 32, Pen: api.Pen{Bg: want.Pen.Bg}}
		}
		if after[i] != want {
			t.Fatal(made, "has at", i, show(after[i:i+1]), "and not", show([]api.Cell{want}))
		}
	}
}

func TestLeftAlone(t *testing.T) {
	for cells := 1; cells <= 6; cells++ {
		for _, text := range wholes(cells) {
			l := row(text)
			for x := range cells {
				leftAlone(t, call{"Put", l, x, 1}, cell.Put(l, x, 'c', three), x, x+1)
				if x+2 <= cells {
					leftAlone(t, call{"Put", l, x, 2}, cell.Put(l, x, 0x4E00, three), x, x+2)
				}
				for to := x + 1; to <= cells; to++ {
					leftAlone(t, call{"Erase", l, x, to}, cell.Erase(l, x, to, three), x, to)
				}
			}
		}
	}
}

// R2, R7

func TestSameAgain(t *testing.T) {
	l := row("aV>bU].2W>")
	want := each(l)
	var all sync.WaitGroup
	told := make([][][]api.Cell, 8)
	for i := range told {
		all.Go(func() {
			for range 50 {
				told[i] = each(l)
			}
		})
	}
	all.Wait()
	for _, got := range told {
		for i := range want {
			check(t, strconv.Itoa(i), got[i], want[i])
		}
	}
}

// each answers what each call does to a row where something is written, and where nothing is.
func each(l []api.Cell) [][]api.Cell {
	return [][]api.Cell{
		cell.Put(l, 2, 'c', three), cell.Put(l, 2, 0x4E00, three), cell.Put(l, 2, 0, three), cell.Put(l, -1, 'c', three),
		cell.Erase(l, 2, 6, three), cell.Erase(l, 6, 2, three), cell.Erase(l, -1, 99, three),
		cell.Insert(l, 2, 3, three), cell.Insert(l, 2, 99, three), cell.Insert(l, 2, 0, three), cell.Insert(l, -1, 2, three),
		cell.Delete(l, 2, 4, three), cell.Delete(l, 2, 99, three), cell.Delete(l, 2, 0, three), cell.Delete(l, 99, 2, three),
	}
}

// R3

func TestHandedInStays(t *testing.T) {
	for _, text := range []string{"aV>bU].2W>", "V>V>V>", "V", "V]", ">a"} {
		room := append(row(text), row("VcU)")...)
		kept := slices.Clone(room)
		l := room[:len(text)]
		cell.RowMay(l)
		each(l)
		if !slices.Equal(room, kept) {
			t.Error(show(kept), "became", show(room))
		}
	}
}

func TestNewMemory(t *testing.T) {
	room := row("aV>bU].2W>cccc")
	l := room[:10]
	kept := slices.Clone(room)
	got, want := each(l), each(l)
	for i := range got {
		written := got[i][:cap(got[i])]
		for j := range written {
			written[j] = spelt('X')
		}
		if !slices.Equal(room, kept) {
			t.Fatal(i, "shares what was handed in")
		}
		for j := i + 1; j < len(got); j++ {
			check(t, strconv.Itoa(j), got[j], want[j])
		}
	}
}

func TestAnswersStay(t *testing.T) {
	l := row("aV>bU].2W>")
	got, want := each(l), each(row("aV>bU].2W>"))
	for i := range l {
		l[i] = spelt('X')
	}
	for i := range got {
		check(t, strconv.Itoa(i), got[i], want[i])
	}
}

// R4

func TestNoCells(t *testing.T) {
	refused(t, nil, three)
	refused(t, []api.Cell{}, three)
	refused(t, row("abc")[:0], three)
}
