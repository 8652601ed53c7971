package emul_test

import (
	"testing"

	"spyglass/api"
)

// P12.1: the examples of the chapter.
func TestExamples(t *testing.T) {
	try(t, 4, 2, "abcde", "abcd/e... 1,1")
	try(t, 4, 2, "abcd", "abcd/.... 3,0")
	try(t, 4, 4, "^[2;3r^[H", "..../..../..../.... 0,0")
	term := fed(t, 4, 1, "^[38;5;9mx")
	shows(t, term, "a colour", "x... 1,0")
	if c := term.Screen().Cells[0]; c != (api.Cell{Rune: 'x', Pen: api.Pen{Fg: 10}}) {
		t.Errorf("x in the colour 9 is %+v", c)
	}
}

// P12.1: what a new terminal is.
func TestNewTerm(t *testing.T) {
	try(t, 3, 2, "", ".../... 0,0")
	// It wraps, its margins are the first row and the last one, it doesn't insert, the pen is zero, the tabs are those at 8, 16 and so on, and there is no rune that was printed last.
	try(t, 3, 2, "^[5babcdefg", "def/g.. 1,1")
	try(t, 20, 1, "\ta\tb\tc", "........a.......b..c 19,0")
	try(t, 20, 1, "^[20G^[Zc^[2Zb^[2Za", "a.......b.......c... 1,0")
	try(t, 3, 2, "^[2;2Ha^8b", "b../.a. 1,0")
	try(t, 3, 2, "^[?6ha", "a../... 1,0")
}
