package emul

import (
	"spyglass/api"
	"spyglass/cell"
	"spyglass/grid"
	"spyglass/utf"
)

// row is the very row in which the cursor is. Its room ends where it ends.
func (t *Term) row() []api.Cell {
	g := t.shown()
	first, end := t.y*g.Cols, (t.y+1)*g.Cols
	return g.Cells[first:end:end]
}

// print puts a letter at the cursor.
func (t *Term) print(r rune) {
	width, room := utf.Width(r), t.lastCol()-t.x+1
	if width == 0 || width > t.lastCol()+1 {
		return
	}
	if t.wraps && (t.full || width > room) {
		t.nextLine()
	} else if width > room {
		return
	}
	row := t.row()
	if t.inserts {
		copy(row, cell.Insert(row, t.x, width, t.pen))
	}
	copy(row, cell.Put(row, t.x, r, t.pen))
	t.last = r
	t.x += width
	t.full = t.x > t.lastCol()
	t.cutCursor()
}

// again prints the letter printed last, many times.
func (t *Term) again(numbers ...int) {
	for range min(count(numbers, 0), len(t.main.Cells)) {
		t.print(t.last)
	}
}

// insert puts blanks in at the cursor.
func (t *Term) insert(numbers ...int) {
	row := t.row()
	copy(row, cell.Insert(row, t.x, count(numbers, 0), t.pen))
}

// takeOut takes cells out at the cursor.
func (t *Term) takeOut(numbers ...int) {
	row := t.row()
	copy(row, cell.Delete(row, t.x, count(numbers, 0), t.pen))
}

// eraseSome erases cells from the cursor on.
func (t *Term) eraseSome(numbers ...int) {
	row := t.row()
	copy(row, cell.Erase(row, t.x, t.x+count(numbers, 0), t.pen))
}

// eraseRow erases the cursor's row, or what is ahead of the cursor in it, or behind.
func (t *Term) eraseRow(numbers ...int) {
	row := t.row()
	from, to := stretch(at(numbers, 0), t.x, len(row))
	copy(row, cell.Erase(row, from, to, t.pen))
}

// eraseScreen erases the screen, or what is ahead of the cursor, or behind.
func (t *Term) eraseScreen(numbers ...int) {
	g := t.shown()
	from, to := stretch(at(numbers, 0), t.y*g.Cols+t.x, len(g.Cells))
	*g = grid.Clear(*g, from, to, t.pen)
}

// stretch answers where the stretch that is to be erased begins, and where what is behind it does: that from a place on, or that up to it, or all, or nothing.
func stretch(which, place, end int) (from, to int) {
	switch which {
	case 0:
		return place, end
	case 1:
		return 0, place + 1
	case 2:
		return 0, end
	}
	return 0, 0
}

// scroll moves rows up.
func (t *Term) scroll(top, bottom, n int) {
	g := t.shown()
	*g = grid.Scroll(*g, top, bottom, n, t.pen)
}

// scrollUp moves the rows between the margins up.
func (t *Term) scrollUp(numbers ...int) { t.scroll(t.top, t.bottom, count(numbers, 0)) }

// scrollDown moves the rows between the margins down.
func (t *Term) scrollDown(numbers ...int) { t.scroll(t.top, t.bottom, -count(numbers, 0)) }

// insertRows moves the rows from the cursor to the bottom margin down.
func (t *Term) insertRows(numbers ...int) { t.moveRows(-count(numbers, 0)) }

// takeOutRows moves the rows from the cursor to the bottom margin up.
func (t *Term) takeOutRows(numbers ...int) { t.moveRows(count(numbers, 0)) }

// moveRows moves the rows from the cursor to the bottom margin up, if the cursor is between the margins.
func (t *Term) moveRows(n int) {
	if t.y >= t.top && t.y <= t.bottom {
		t.scroll(t.y, t.bottom, n)
		t.lineStart()
	}
}
