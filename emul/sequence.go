package emul

// sequence answers what a control sequence does.
func sequence(mark, final byte) deed {
	switch mark {
	case 0:
		if do := moving(final); do != nil {
			return do
		}
		return writing(final)
	case '?':
		return private(final)
	case '!':
		if final == 'p' {
			return (*Term).softReset
		}
	}
	return nil
}

// private answers what a control sequence with ? does.
func private(final byte) deed {
	switch final {
	case 'h':
		return (*Term).setPrivate
	case 'l':
		return (*Term).unsetPrivate
	}
	return nil
}

// moving answers what a control sequence without a mark does, if it has to do with the cursor and where it may go.
func moving(final byte) deed {
	switch final {
	case 'A':
		return (*Term).up
	case 'B', 'e':
		return (*Term).down
	case 'C', 'a':
		return (*Term).right
	case 'D':
		return (*Term).left
	case 'E':
		return (*Term).startsDown
	case 'F':
		return (*Term).startsUp
	case 'G', '`':
		return (*Term).toColumn
	case 'd':
		return (*Term).toRow
	case 'H', 'f':
		return (*Term).toPlace
	case 'I':
		return (*Term).tabAhead
	case 'Z':
		return (*Term).tabBack
	case 'g':
		return (*Term).takeTabs
	case 'r':
		return (*Term).setMargins
	case 's':
		return (*Term).save
	case 'u':
		return (*Term).restore
	}
	return nil
}

// writing answers what a control sequence without a mark does, if it has to do with cells and how they are written.
func writing(final byte) deed {
	switch final {
	case '@':
		return (*Term).insert
	case 'P':
		return (*Term).takeOut
	case 'X':
		return (*Term).eraseSome
	case 'J':
		return (*Term).eraseScreen
	case 'K':
		return (*Term).eraseRow
	case 'L':
		return (*Term).insertRows
	case 'M':
		return (*Term).takeOutRows
	case 'S':
		return (*Term).scrollUp
	case 'T':
		return (*Term).scrollDown
	case 'b':
		return (*Term).again
	case 'h':
		return (*Term).setPlain
	case 'l':
		return (*Term).unsetPlain
	case 'm':
		return (*Term).look
	}
	return nil
}

// switching is what a mode does where it is set, or isn't any more.
type switching func(t *Term, on bool)

// plainMode answers what a mode of a sequence without a mark does.
func plainMode(n int) switching {
	if n == 4 {
		return (*Term).setInserts
	}
	return nil
}

// privateMode answers what a mode of a sequence with ? does.
func privateMode(n int) switching {
	switch n {
	case 6:
		return (*Term).setOrigin
	case 7:
		return (*Term).setWraps
	case 25:
		return (*Term).setCursor
	case 47, 1047:
		return (*Term).setOther
	case 1000:
		return (*Term).setButtons
	case 1002, 1003:
		return (*Term).setMotion
	case 1049:
		return (*Term).setSavedOther
	}
	return nil
}

// setPlain sets modes of a sequence without a mark.
func (t *Term) setPlain(numbers ...int) { t.switchModes(plainMode, true, numbers) }

// unsetPlain ends them.
func (t *Term) unsetPlain(numbers ...int) { t.switchModes(plainMode, false, numbers) }

// setPrivate sets modes of a sequence with ?.
func (t *Term) setPrivate(numbers ...int) { t.switchModes(privateMode, true, numbers) }

// unsetPrivate ends them.
func (t *Term) unsetPrivate(numbers ...int) { t.switchModes(privateMode, false, numbers) }

// switchModes sets modes, or ends them, one by one.
func (t *Term) switchModes(mode func(n int) switching, on bool, numbers []int) {
	for _, n := range numbers {
		if do := mode(n); do != nil {
			do(t, on)
		}
	}
}

// setInserts has letters be put in, or not.
func (t *Term) setInserts(on bool) { t.inserts = on }

// setOrigin has rows be counted from the top margin on, or not.
func (t *Term) setOrigin(on bool) {
	t.origin = on
	t.home()
}

// setWraps has letters go on in the next row, or not.
func (t *Term) setWraps(on bool) { t.wraps = on }

// setCursor shows the cursor, or hides it.
func (t *Term) setCursor(on bool) { t.hidden = !on }

// setButtons has the mouse tell its buttons, or nothing.
func (t *Term) setButtons(on bool) { t.setMouse(mouseButtons, on) }

// setMotion has the mouse tell its motion too, or nothing.
func (t *Term) setMotion(on bool) { t.setMouse(mouseMotion, on) }

// setMouse sets what the mouse tells, or has it tell nothing.
func (t *Term) setMouse(mouse uint8, on bool) {
	t.mouse = mouseNothing
	if on {
		t.mouse = mouse
	}
}

// setOther shows the other grid, or the main one. The other one keeps its cells, and their links, till it is shown the next time.
func (t *Term) setOther(on bool) {
	if on && !t.onOther {
		t.other = blank(t.main.Cols, t.main.Rows)
	}
	t.onOther = on
}

// setSavedOther shows the other grid behind saving, or the main one ahead of restoring.
func (t *Term) setSavedOther(on bool) {
	if on {
		t.save()
	}
	t.setOther(on)
	if !on {
		t.restore()
	}
}
