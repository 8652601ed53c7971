package emul

import (
	"spyglass/api"
	"spyglass/grid"
)

// deed is what an act does, with the act's numbers, if it has some.
type deed func(t *Term, numbers ...int)

// obey does a deed, if it is one.
func (t *Term) obey(do deed, numbers ...int) {
	if do != nil {
		do(t, numbers...)
	}
}

// controlByte answers what a control byte does: nothing, or what a sequence without numbers does too.
func controlByte(final byte) deed {
	switch final {
	case 8:
		return (*Term).left
	case 9:
		return (*Term).tabAhead
	case 10, 11, 12:
		return (*Term).lineDown
	case 13:
		return (*Term).lineStart
	}
	return nil
}

// escape answers what an escape sequence does.
func escape(mark, final byte) deed {
	if mark != 0 {
		return nil
	}
	switch final {
	case '7':
		return (*Term).save
	case '8':
		return (*Term).restore
	case 'D':
		return (*Term).lineDown
	case 'E':
		return (*Term).nextLine
	case 'M':
		return (*Term).lineUp
	case 'H':
		return (*Term).setTab
	case 'c':
		return (*Term).reset
	}
	return nil
}

// at answers the number at a place, or 0, if there is none.
func at(numbers []int, i int) int {
	if i >= len(numbers) {
		return 0
	}
	return numbers[i]
}

// count answers the number at a place, or 1, if there is none, or it is 0.
func count(numbers []int, i int) int { return max(at(numbers, i), 1) }

// shown is the grid that is shown.
func (t *Term) shown() *grid.Grid {
	if t.onOther {
		return &t.other
	}
	return &t.main
}

// lastCol is the last column.
func (t *Term) lastCol() int { return t.main.Cols - 1 }

// lastRow is the last row.
func (t *Term) lastRow() int { return t.main.Rows - 1 }

// reset makes everything but the parser new.
func (t *Term) reset(...int) { t.state = begin(t.main.Cols, t.main.Rows) }

// softReset makes new what stands in the way of an application that begins.
func (t *Term) softReset(...int) {
	t.wraps, t.inserts, t.hidden = true, false, false
	t.pen, t.origin = api.Pen{}, false
	t.saved = spot{}
	t.freeMargins()
}

// save keeps the cursor, the pen and the origin.
func (t *Term) save(...int) { t.saved = t.spot }

// restore takes them back.
func (t *Term) restore(...int) {
	t.spot = t.saved
	t.cutCursor()
}

// cutCursor brings the cursor back to the last column and the last row, if it is beyond.
func (t *Term) cutCursor() { t.x, t.y = min(t.x, t.lastCol()), min(t.y, t.lastRow()) }

// home brings the cursor to where rows and columns are counted from.
func (t *Term) home() {
	t.x, t.y = 0, 0
	if t.origin {
		t.y = t.top
	}
}

// lineStart brings the cursor to the first column.
func (t *Term) lineStart(...int) { t.x = 0 }

// lineDown brings the cursor one line down; at the bottom margin the rows between the margins go up instead.
func (t *Term) lineDown(...int) {
	switch t.y {
	case t.bottom:
		t.scroll(t.top, t.bottom, 1)
	case t.lastRow():
	default:
		t.y++
	}
}

// lineUp brings the cursor one line up; at the top margin the rows between the margins go down instead.
func (t *Term) lineUp(...int) {
	switch t.y {
	case t.top:
		t.scroll(t.top, t.bottom, -1)
	case 0:
	default:
		t.y--
	}
}

// nextLine brings the cursor to the first column one line down.
func (t *Term) nextLine(...int) {
	t.lineStart()
	t.lineDown()
}

// up moves the cursor up, but not out of the margins, nor off the screen.
func (t *Term) up(numbers ...int) {
	least := 0
	if t.y >= t.top {
		least = t.top
	}
	t.y = max(t.y-count(numbers, 0), least)
}

// down moves the cursor down, likewise.
func (t *Term) down(numbers ...int) {
	most := t.lastRow()
	if t.y <= t.bottom {
		most = t.bottom
	}
	t.y = min(t.y+count(numbers, 0), most)
}

// right moves the cursor right, in its row.
func (t *Term) right(numbers ...int) { t.x = min(t.x+count(numbers, 0), t.lastCol()) }

// left moves the cursor left, in its row.
func (t *Term) left(numbers ...int) { t.x = max(t.x-count(numbers, 0), 0) }

// startsDown moves the cursor down, to the first column.
func (t *Term) startsDown(numbers ...int) {
	t.down(numbers...)
	t.lineStart()
}

// startsUp moves the cursor up, to the first column.
func (t *Term) startsUp(numbers ...int) {
	t.up(numbers...)
	t.lineStart()
}

// toColumn brings the cursor to a column, counted from 1 on.
func (t *Term) toColumn(numbers ...int) { t.x = min(count(numbers, 0)-1, t.lastCol()) }

// toRow brings the cursor to a row, counted from 1 on, with origin from the top margin on.
func (t *Term) toRow(numbers ...int) {
	first, last := 0, t.lastRow()
	if t.origin {
		first, last = t.top, t.bottom
	}
	t.y = min(first+count(numbers, 0)-1, last)
}

// toPlace brings the cursor to a row and a column.
func (t *Term) toPlace(numbers ...int) {
	t.toRow(numbers...)
	t.toColumn(count(numbers, 1))
}

// tabAhead brings the cursor to the next tab, many times.
func (t *Term) tabAhead(numbers ...int) {
	for range count(numbers, 0) {
		t.right()
		for t.x < t.lastCol() && !t.tabs[t.x] {
			t.x++
		}
	}
}

// tabBack brings the cursor to the tab ahead of it, many times.
func (t *Term) tabBack(numbers ...int) {
	for range count(numbers, 0) {
		t.left()
		for t.x > 0 && !t.tabs[t.x] {
			t.x--
		}
	}
}

// setTab puts a tab at the cursor.
func (t *Term) setTab(...int) { t.tabs[t.x] = true }

// takeTabs takes the tab at the cursor away, or all.
func (t *Term) takeTabs(numbers ...int) {
	switch at(numbers, 0) {
	case 0:
		t.tabs[t.x] = false
	case 3:
		clear(t.tabs[:])
	}
}

// setMargins sets the margins, if there are two rows between them at least.
func (t *Term) setMargins(numbers ...int) {
	top, bottom := count(numbers, 0), at(numbers, 1)
	if rows := t.lastRow() + 1; bottom == 0 || bottom > rows {
		bottom = rows
	}
	if top < bottom {
		t.top, t.bottom = top-1, bottom-1
		t.home()
	}
}

// freeMargins makes the margins the first row and the last one.
func (t *Term) freeMargins() { t.top, t.bottom = 0, t.lastRow() }
