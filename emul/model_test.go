package emul_test

import (
	"slices"
	"strings"

	"spyglass/api"
	"spyglass/parse"
	"spyglass/utf"
)

// Bounds of the document.
const (
	mostCols    = 80
	mostRows    = 24
	mostLinks   = 16
	mostTitle   = 64
	mostURI     = 64
	mostNumbers = 16
	mostNumber  = 9999
	mostText    = 256
)

// rgb is what a colour of three parts has more.
const rgb = 1 << 24

// look is how the model's letters look: Bold, Faint, Italic, Under, Blink, Inverse, Hidden and Strike, one by one; a link is its text itself.
type look struct {
	fg, bg uint32
	attrs  [8]bool
	uri    string
}

// glyph is what the model has at a place. Halves of a wide letter have the same number, which no other letter has; narrow ones have 0.
type glyph struct {
	letter rune
	wide   uint8
	number int
	look   look
}

// keeps is what the model saves and restores.
type keeps struct {
	x, y   int
	pen    look
	origin bool
}

// model is a terminal as the chapter tells it, word by word: rows are lists of glyphs, what is done n times is done one by one.
type model struct {
	cols, rows  int
	grids       [2][][]glyph
	other       int
	at, kept    keeps
	full        bool
	top, bottom int
	off         map[string]bool
	on          map[string]bool
	mouse       uint8
	tabs        map[int]bool
	title       string
	table       []string
	printed     rune
	printedAny  bool
	numbers     int
	parser      *parse.Parser
}

// newModel is one of a size that may be.
func newModel(cols, rows int) *model {
	m := &model{cols: cols, rows: rows, parser: parse.New()}
	m.renew()
	return m
}

// renew makes all new but the parser and the size.
func (m *model) renew() {
	*m = model{cols: m.cols, rows: m.rows, numbers: m.numbers, parser: m.parser}
	for i := range m.grids {
		m.grids[i] = m.empty()
	}
	m.on, m.off = map[string]bool{}, map[string]bool{}
	m.bottom = m.rows - 1
	m.newTabs()
}

// newTabs are those of a new terminal.
func (m *model) newTabs() {
	m.tabs = map[int]bool{}
	for x := range mostCols {
		if x%8 == 0 && x != 0 {
			m.tabs[x] = true
		}
	}
}

// blankOf is a pen's blank.
func blankOf(p look) glyph { return glyph{letter: ' ', look: look{bg: p.bg}} }

// line is a row of blanks of a pen.
func (m *model) line(p look) []glyph { return slices.Repeat([]glyph{blankOf(p)}, m.cols) }

// empty is a grid of blanks of the zero pen.
func (m *model) empty() [][]glyph {
	var g [][]glyph
	for range m.rows {
		g = append(g, m.line(look{}))
	}
	return g
}

// mended is a row in which halves without their other half are blanks.
func mended(row []glyph) []glyph {
	l := slices.Clone(row)
	for i, g := range row {
		switch {
		case g.wide == 1 && (i+1 == len(row) || row[i+1].number != g.number):
			l[i] = blankOf(g.look)
		case g.wide == 2 && (i == 0 || row[i-1].number != g.number):
			l[i] = blankOf(g.look)
		}
	}
	return l
}

// grid is the one that is shown.
func (m *model) grid() [][]glyph { return m.grids[m.other] }

// change makes of the cursor's row another one, cut to its length or made as long by blanks of the pen.
func (m *model) change(row []glyph) {
	for len(row) < m.cols {
		row = append(row, blankOf(m.at.pen))
	}
	m.grid()[m.at.y] = mended(row[:m.cols])
}

// wipe erases the places that are asked for.
func (m *model) wipe(asked func(x, y int) bool) {
	for y, row := range m.grid() {
		for x := range row {
			if asked(x, y) {
				row[x] = blankOf(m.at.pen)
			}
		}
		m.grid()[y] = mended(row)
	}
}

// rise moves rows one row up: one goes, another one comes.
func (m *model) rise(top, bottom int) {
	g := slices.Delete(m.grid(), top, top+1)
	m.grids[m.other] = slices.Insert(g, bottom, m.line(m.at.pen))
}

// sink moves rows one row down.
func (m *model) sink(top, bottom int) {
	g := slices.Delete(m.grid(), bottom, bottom+1)
	m.grids[m.other] = slices.Insert(g, top, m.line(m.at.pen))
}

// down is one line down.
func (m *model) down() {
	if m.at.y == m.bottom {
		m.rise(m.top, m.bottom)
	} else if m.at.y != m.rows-1 {
		m.at.y++
	}
}

// up is one line up.
func (m *model) up() {
	if m.at.y == m.top {
		m.sink(m.top, m.bottom)
	} else if m.at.y != 0 {
		m.at.y--
	}
}

// home is where it is.
func (m *model) home() {
	m.at.x, m.at.y = 0, 0
	if m.at.origin {
		m.at.y = m.top
	}
}

// back restores what is kept.
func (m *model) back() {
	m.at = m.kept
	for m.at.x >= m.cols {
		m.at.x--
	}
	for m.at.y >= m.rows {
		m.at.y--
	}
}

// print puts a letter.
func (m *model) print(r rune) {
	w := utf.Width(r)
	last := m.at.x == m.cols-1
	if w == 0 || w > m.cols {
		return
	}
	if !m.off["wraps"] && (m.full || w == 2 && last) {
		m.at.x = 0
		m.down()
	} else if m.off["wraps"] && w == 2 && last {
		return
	}
	row := slices.Clone(m.grid()[m.at.y])
	if m.on["inserts"] {
		for range w {
			row = slices.Insert(row, m.at.x, blankOf(m.at.pen))
		}
		row = mended(row[:m.cols])
	}
	row[m.at.x] = glyph{letter: r, look: m.at.pen}
	if w == 2 {
		m.numbers++
		row[m.at.x] = glyph{r, 1, m.numbers, m.at.pen}
		row[m.at.x+1] = glyph{0, 2, m.numbers, m.at.pen}
	}
	m.change(row)
	m.printed, m.printedAny = r, true
	m.full = m.at.x+w >= m.cols
	m.at.x = min(m.at.x+w, m.cols-1)
}

// do does what an act does.
func (m *model) do(a api.Act) {
	if len(a.Params) > mostNumbers || len(a.Text) > mostText {
		return
	}
	for _, n := range a.Params {
		if n < 0 || n > mostNumber {
			return
		}
	}
	name := string([]byte{a.Mark, a.Final})
	if a.Kind == 2 || a.Kind == 3 || a.Kind == 4 && name != "\x00m" && name != "\x00b" {
		m.full = false
	}
	switch a.Kind {
	case 1:
		m.print(a.Rune)
	case 2:
		m.control(a.Final)
	case 3:
		m.escape(name)
	case 4:
		m.sequence(name, a.Params)
	case 5:
		m.command(string(a.Text))
	}
}

// control is what a control byte does.
func (m *model) control(b byte) {
	switch b {
	case 8:
		if m.at.x != 0 {
			m.at.x--
		}
	case 9:
		m.tab()
	case 10, 11, 12:
		m.down()
	case 13:
		m.at.x = 0
	}
}

// tab brings the cursor to the next tab.
func (m *model) tab() {
	for x := m.at.x + 1; x < m.cols; x++ {
		if m.tabs[x] {
			m.at.x = x
			return
		}
	}
	m.at.x = m.cols - 1
}

// tabBack brings the cursor to the tab ahead of it.
func (m *model) tabBack() {
	for x := m.at.x - 1; x > 0; x-- {
		if m.tabs[x] {
			m.at.x = x
			return
		}
	}
	m.at.x = 0
}

// escape is what an escape sequence does.
func (m *model) escape(name string) {
	switch name {
	case "\x007":
		m.kept = m.at
	case "\x008":
		m.back()
	case "\x00D":
		m.down()
	case "\x00E":
		m.at.x = 0
		m.down()
	case "\x00M":
		m.up()
	case "\x00H":
		m.tabs[m.at.x] = true
	case "\x00c":
		m.renew()
	}
}

// sequence is what a control sequence does.
func (m *model) sequence(name string, numbers []int) {
	first, second := 0, 0
	if len(numbers) > 0 {
		first = numbers[0]
	}
	if len(numbers) > 1 {
		second = numbers[1]
	}
	switch {
	case name == "?h" || name == "?l":
		for _, n := range numbers {
			m.mode(n, name == "?h")
		}
	case name == "!p":
		m.on, m.off = map[string]bool{"hidden": false}, map[string]bool{}
		m.at.origin, m.at.pen, m.kept = false, look{}, keeps{}
		m.top, m.bottom = 0, m.rows-1
	case name == "\x00m":
		m.dye(numbers)
	case name[0] == 0:
		m.plain(name[1:], first, second, numbers)
	}
}

// plain is what a sequence without a mark does.
func (m *model) plain(final string, first, second int, numbers []int) {
	n, column := max(first, 1), max(second, 1)
	switch final {
	case "A", "F", "B", "e", "E", "C", "a", "D":
		m.steps(final, n)
	case "G", "`":
		m.at.x = min(n-1, m.cols-1)
	case "d", "H", "f":
		m.at.y = min(n-1, m.rows-1)
		if m.at.origin {
			m.at.y = min(m.top+n-1, m.bottom)
		}
		if final != "d" {
			m.at.x = min(column-1, m.cols-1)
		}
	case "I":
		for range n {
			m.tab()
		}
	case "Z":
		for range n {
			m.tabBack()
		}
	case "g":
		switch first {
		case 0:
			delete(m.tabs, m.at.x)
		case 3:
			m.tabs = map[int]bool{}
		}
	case "h", "l":
		if slices.Contains(numbers, 4) {
			m.on["inserts"] = final == "h"
		}
	case "r":
		if second == 0 || second > m.rows {
			second = m.rows
		}
		if n < second {
			m.top, m.bottom = n-1, second-1
			m.home()
		}
	case "s":
		m.kept = m.at
	case "u":
		m.back()
	default:
		m.written(final, n, first)
	}
}

// steps goes so many places, one by one.
func (m *model) steps(final string, n int) {
	above, below := m.at.y < m.top, m.at.y > m.bottom
	for range n {
		switch final {
		case "A", "F":
			if m.at.y > 0 && (above || m.at.y > m.top) {
				m.at.y--
			}
		case "B", "e", "E":
			if m.at.y < m.rows-1 && (below || m.at.y < m.bottom) {
				m.at.y++
			}
		case "C", "a":
			if m.at.x < m.cols-1 {
				m.at.x++
			}
		case "D":
			if m.at.x > 0 {
				m.at.x--
			}
		}
	}
	if final == "E" || final == "F" {
		m.at.x = 0
	}
}

// written is what a sequence does that has to do with cells.
func (m *model) written(final string, n, first int) {
	row, x, y := slices.Clone(m.grid()[m.at.y]), m.at.x, m.at.y
	inMargins := y >= m.top && y <= m.bottom
	switch final {
	case "@":
		m.change(slices.Insert(row, x, slices.Repeat([]glyph{blankOf(m.at.pen)}, n)...))
	case "P":
		m.change(slices.Delete(row, x, min(x+n, m.cols)))
	case "X":
		m.wipe(func(i, j int) bool { return j == y && i >= x && i < x+n })
	case "J":
		m.wipe(func(i, j int) bool {
			behind, ahead := j > y || j == y && i >= x, j < y || j == y && i <= x
			return first == 0 && behind || first == 1 && ahead || first == 2
		})
	case "K":
		m.wipe(func(i, j int) bool {
			return j == y && (first == 0 && i >= x || first == 1 && i <= x || first == 2)
		})
	case "L", "M":
		for range min(n, m.rows) {
			if inMargins && final == "L" {
				m.sink(y, m.bottom)
			} else if inMargins {
				m.rise(y, m.bottom)
			}
		}
		if inMargins {
			m.at.x = 0
		}
	case "S":
		for range min(n, m.rows) {
			m.rise(m.top, m.bottom)
		}
	case "T":
		for range min(n, m.rows) {
			m.sink(m.top, m.bottom)
		}
	case "b":
		for range min(n, m.cols*m.rows) {
			if m.printedAny {
				m.print(m.printed)
			}
		}
	}
}

// mode sets a mode, or ends it.
func (m *model) mode(n int, set bool) {
	switch n {
	case 6:
		m.at.origin = set
		m.home()
	case 7:
		m.off["wraps"] = !set
	case 25:
		m.on["hidden"] = !set
	case 1000, 1002, 1003:
		m.mouse = 0
		if set {
			m.mouse = uint8(min(n-999, 2))
		}
	case 1049:
		if set {
			m.kept = m.at
		}
		m.show(set)
		if !set {
			m.back()
		}
	case 47, 1047:
		m.show(set)
	}
}

// show shows the other grid, or the main one.
func (m *model) show(other bool) {
	if !other {
		m.other = 0
	} else if m.other == 0 {
		m.other = 1
		m.grids[1] = m.empty()
	}
}

// dye sets the pen.
func (m *model) dye(numbers []int) {
	if len(numbers) == 0 {
		numbers = []int{0}
	}
	p := &m.at.pen
	for len(numbers) > 0 {
		n := numbers[0]
		numbers = numbers[1:]
		if n == 38 || n == 48 {
			color, rest, ok := toldColor(numbers)
			if !ok {
				return
			}
			numbers = rest
			if n == 38 {
				p.fg = color
			} else {
				p.bg = color
			}
			continue
		}
		dyeOne(p, n)
	}
}

// toldColor is the colour that numbers tell, and what is behind them.
func toldColor(l []int) (color uint32, rest []int, ok bool) {
	if len(l) >= 2 && l[0] == 5 && l[1] < 256 {
		return uint32(l[1]) + 1, l[2:], true
	}
	if len(l) >= 4 && l[0] == 2 && max(l[1], l[2], l[3]) < 256 {
		return uint32(rgb + 65536*l[1] + 256*l[2] + l[3]), l[4:], true
	}
	return 0, nil, false
}

// dyeOne is what one number does to a pen.
func dyeOne(p *look, n int) {
	places := map[int]int{1: 0, 2: 1, 3: 2, 4: 3, 5: 4, 7: 5, 8: 6, 9: 7}
	unset := map[int]int{23: 2, 24: 3, 25: 4, 27: 5, 28: 6, 29: 7}
	if place, ok := places[n]; ok {
		p.attrs[place] = true
	}
	if place, ok := unset[n]; ok {
		p.attrs[place] = false
	}
	switch {
	case n == 0:
		*p = look{uri: p.uri}
	case n == 22:
		p.attrs[0], p.attrs[1] = false, false
	case n >= 30 && n <= 37:
		p.fg = uint32(n - 30 + 1)
	case n >= 40 && n <= 47:
		p.bg = uint32(n - 40 + 1)
	case n >= 90 && n <= 97:
		p.fg = uint32(n - 90 + 8 + 1)
	case n >= 100 && n <= 107:
		p.bg = uint32(n - 100 + 8 + 1)
	case n == 39:
		p.fg = 0
	case n == 49:
		p.bg = 0
	}
}

// command is what a text does.
func (m *model) command(text string) {
	l := strings.SplitN(text, ";", 2)
	if len(l) < 2 {
		return
	}
	switch l[0] {
	case "0", "2":
		m.title = ""
		for _, r := range utf.Runes([]byte(l[1])) {
			if utf.Width(r) == 0 {
				continue
			}
			if len(m.title+string(r)) > mostTitle {
				return
			}
			m.title += string(r)
		}
	case "8":
		if l = strings.SplitN(l[1], ";", 2); len(l) == 2 {
			m.at.pen.uri = ""
			if uriMay(l[1]) && (m.take(l[1]) || m.sweep() && m.take(l[1])) {
				m.at.pen.uri = l[1]
			}
		}
	}
}

// uriMay tells whether a link may be.
func uriMay(uri string) bool {
	for _, b := range []byte(uri) {
		if b < 33 || b > 126 {
			return false
		}
	}
	return uri != "" && len(uri) <= mostURI
}

// take puts a link in the table, if it has room.
func (m *model) take(uri string) bool {
	if !slices.Contains(m.table, uri) && len(m.table) < mostLinks {
		m.table = append(m.table, uri)
	}
	return slices.Contains(m.table, uri)
}

// sweep leaves in the table only what the cells of both grids and the kept pen lead to.
func (m *model) sweep() bool {
	var used []string
	for _, g := range m.grids {
		for _, row := range g {
			for _, place := range row {
				used = append(used, place.look.uri)
			}
		}
	}
	used = append(used, m.kept.pen.uri)
	m.table = slices.DeleteFunc(m.table, func(uri string) bool { return !slices.Contains(used, uri) })
	return true
}

// feed does what bytes mean.
func (m *model) feed(b []byte) {
	for _, each := range b {
		for _, a := range m.parser.Feed(each) {
			m.do(a)
		}
	}
}

// resize gives the model another size that may be.
func (m *model) resize(cols, rows int) {
	for i, g := range m.grids {
		for y, row := range g {
			for len(row) < cols {
				row = append(row, blankOf(look{}))
			}
			g[y] = mended(row[:cols])
		}
		for len(g) < rows {
			g = append(g, slices.Repeat([]glyph{blankOf(look{})}, cols))
		}
		m.grids[i] = g[:rows]
	}
	m.cols, m.rows, m.full = cols, rows, false
	m.at.x, m.at.y = min(m.at.x, cols-1), min(m.at.y, rows-1)
	m.top, m.bottom = 0, rows-1
	m.newTabs()
}

// screen is what the model shows.
func (m *model) screen() api.Screen {
	s := api.Screen{Cols: m.cols, Rows: m.rows, X: m.at.x, Y: m.at.y, Hidden: m.on["hidden"], Mouse: m.mouse, Title: m.title}
	bits := [8]uint8{1, 2, 4, 8, 16, 32, 64, 128}
	s.Cells = make([]api.Cell, 0, m.cols*m.rows)
	for _, row := range m.grid() {
		for _, g := range row {
			p := api.Pen{Fg: api.Color(g.look.fg), Bg: api.Color(g.look.bg)}
			for i, set := range g.look.attrs {
				if set {
					p.Attrs += bits[i]
				}
			}
			if g.look.uri != "" {
				if !slices.Contains(s.Links, g.look.uri) {
					s.Links = append(s.Links, g.look.uri)
				}
				p.Link = uint16(slices.Index(s.Links, g.look.uri) + 1)
			}
			s.Cells = append(s.Cells, api.Cell{Rune: g.letter, Wide: g.wide, Pen: p})
		}
	}
	return s
}
