package rows_test

import (
	"bytes"
	"fmt"
	"strings"
	"testing"

	"spyglass/api"
	"spyglass/rows"
)

// encodes has Encode answer what is wanted, without an error, and Apply lead there.
func encodes(t *testing.T, name string, a, b api.Screen, want []byte) {
	t.Helper()
	if d, e := rows.Encode(a, b); e != ok || !bytes.Equal(d, want) {
		t.Errorf("%s: from %s to %s: error %d, %v, and not %v", name, drawn(a), drawn(b), e, d, want)
	}
	leads(t, a, want, b)
}

// fulls has Full answer what is wanted, without an error, and Apply lead there.
func fulls(t *testing.T, name string, b api.Screen, want []byte) {
	t.Helper()
	if d, e := rows.Full(b); e != ok || !bytes.Equal(d, want) {
		t.Errorf("%s: to %s: error %d, %v, and not %v", name, drawn(b), e, d, want)
	}
	leads(t, someScreen(), want, b)
}

// P16.1: the chapter's examples.
func TestExamples(t *testing.T) {
	want := []byte{2, 1, 0, 0, 0, 1, 0, 0, 0, 0, 97, 0, 0, 0, 0, 0, 0, 0, 0, 32, 0, 0, 0, 0, 0}
	encodes(t, "a at 0", blank(2, 1), screen(2, "a."), want)
	s := screen(2, "ab")
	s.X = 1
	encodes(t, "to itself", s, s, []byte{2, 1, 1, 0, 0, 0})
	for _, s := range fitting(t, 60) {
		flags := 0
		if s.Hidden {
			flags = 1
		}
		encodes(t, "to itself", s, s, diff(s.Cols, s.Rows, s.X, s.Y, flags, 0))
	}
}

// P16.1: Fits of screens that may not be, of those that may, and of those that fit.
func TestFits(t *testing.T) {
	for _, each := range append(mayNot(), mayButNot(t)...) {
		if rows.Fits(each.screen) {
			t.Errorf("%s: fits: %s", each.name, drawn(each.screen))
		}
	}
	for _, s := range fitting(t, 100) {
		if !rows.Fits(s) {
			t.Errorf("doesn't fit: %s", drawn(s))
		}
	}
	s := someScreen()
	for c := range api.Color(257) {
		if s.Cells[0].Pen = (api.Pen{Fg: c, Bg: 256 - c, Attrs: uint8(c)}); !rows.Fits(s) {
			t.Errorf("colours %d and %d don't fit", c, 256-c)
		}
	}
	for _, title := range titles() {
		if s.Title = title; !rows.Fits(s) {
			t.Errorf("the title %q doesn't fit", title)
		}
	}
}

// P16.1: Encode and Full, where no row is unlike, one, some, all, the first and the last one.
func TestRowsUnlike(t *testing.T) {
	a := screen(2, "abcdef")
	for _, each := range []struct {
		name, text string
		rows       []byte
	}{
		{"none", "abcdef", diff(0)},
		{"the first one", "xbcdef", diff(1, 0, "xb")},
		{"the first one, at its end", "axcdef", diff(1, 0, "ax")},
		{"the middle one", "abxdef", diff(1, 1, "xd")},
		{"the last one", "abcdex", diff(1, 2, "ex")},
		{"the first and the last one", "xbcdxf", diff(2, 0, "xb", 2, "xf")},
		{"the last two", "abcxxf", diff(2, 1, "cx", 2, "xf")},
		{"all", "uvwxyz", diff(3, 0, "uv", 1, "wx", 2, "yz")},
		{"blanks", "......", diff(3, 0, "..", 1, "..", 2, "..")},
		{"rows moved", "cdefab", diff(3, 0, "cd", 1, "ef", 2, "ab")},
	} {
		encodes(t, each.name, a, screen(2, each.text), diff(2, 3, 0, 0, 0, each.rows))
	}
	for _, each := range []struct {
		text string
		rows []byte
	}{
		{"......", diff(0)},
		{".b....", diff(1, 0, ".b")},
		{"..c...", diff(1, 1, "c.")},
		{".....f", diff(1, 2, ".f")},
		{"ab..ef", diff(2, 0, "ab", 2, "ef")},
		{"abcdef", diff(3, 0, "ab", 1, "cd", 2, "ef")},
	} {
		fulls(t, each.text, screen(2, each.text), diff(2, 3, 0, 0, fromBlank, each.rows))
		encodes(t, each.text, blank(2, 3), screen(2, each.text), diff(2, 3, 0, 0, 0, each.rows))
	}
}

// P16.1: a row is unlike by any part of any cell: its rune, its colours, its attributes.
func TestCellsUnlike(t *testing.T) {
	for _, c := range []api.Cell{
		{Rune: 'b'}, {Rune: 0xE9}, {Rune: 0x20AC}, {Rune: 0x10280}, {Rune: 0xFFFD}, {Rune: ' '},
		{Rune: 'a', Pen: api.Pen{Fg: 1}}, {Rune: 'a', Pen: api.Pen{Fg: 256}}, {Rune: 'a', Pen: api.Pen{Bg: 1}}, {Rune: 'a', Pen: api.Pen{Bg: 256}},
		{Rune: 'a', Pen: api.Pen{Attrs: 1}}, {Rune: 'a', Pen: api.Pen{Attrs: 255}}, {Rune: ' ', Pen: api.Pen{Bg: 2}}, {Rune: 'a', Pen: api.Pen{Fg: 2, Bg: 258 - 3, Attrs: 4}},
	} {
		for x := range 3 {
			a, b := screen(3, "aaaaaa"), screen(3, "aaaaaa")
			b.Cells[3+x] = c
			row := diff(b.Cells[3], b.Cells[4], b.Cells[5])
			encodes(t, "a cell", a, b, diff(3, 2, 0, 0, 0, 1, 1, row))
			encodes(t, "a cell, back", b, a, diff(3, 2, 0, 0, 0, 1, 1, "aaa"))
			fulls(t, "a cell", b, diff(3, 2, 0, 0, fromBlank, 2, 0, "aaa", 1, row))
		}
	}
	// The bytes of a cell, one by one.
	s := screen(1, "a")
	s.Cells[0] = api.Cell{Rune: 0x10280, Pen: api.Pen{Fg: 256, Bg: 17, Attrs: 130}}
	fulls(t, "all bytes of a cell", s, []byte{1, 1, 0, 0, 4, 1, 0, 0, 1, 2, 128, 1, 0, 0, 17, 130})
}

// P16.1: a title that is the same, another, empty on either side, of one byte and of 64.
func TestTitles(t *testing.T) {
	for _, was := range titles() {
		for _, is := range titles() {
			a, b := screen(2, "ab"), screen(2, "ax")
			a.Title, b.Title = was, is
			want := diff(2, 1, 0, 0, 2, len(is), []byte(is), 1, 0, "ax")
			if was == is {
				want = diff(2, 1, 0, 0, 0, 1, 0, "ax")
			}
			encodes(t, fmt.Sprintf("%q to %q", was, is), a, b, want)
		}
		s := screen(2, "ax")
		s.Title = was
		want := diff(2, 1, 0, 0, 6, len(was), []byte(was), 1, 0, "ax")
		if was == "" {
			want = diff(2, 1, 0, 0, 4, 1, 0, "ax")
		}
		fulls(t, was, s, want)
	}
}

// P16.1: a cursor moved, hidden and shown.
func TestCursors(t *testing.T) {
	for x := range 3 {
		for y := range 2 {
			for flags, shown := range []bool{true, false} {
				b := screen(3, "abcdef")
				b.X, b.Y, b.Hidden = x, y, !shown
				a := screen(3, "abcdef")
				encodes(t, "from a shown one", a, b, diff(3, 2, x, y, flags, 0))
				a.X, a.Y, a.Hidden = 2, 1, true
				encodes(t, "from a hidden one", a, b, diff(3, 2, x, y, flags, 0))
				fulls(t, "any", b, diff(3, 2, x, y, 4+flags, 2, 0, "abc", 1, "def"))
			}
		}
	}
}

// P16.1: sizes unlike, of which Encode tells what Full does; the least and the greatest ones.
func TestSizesUnlike(t *testing.T) {
	screens := []api.Screen{screen(1, "a"), screen(2, "ab"), screen(1, "ab"), screen(2, "abcdef"), screen(3, "abcdef"), blank(6, 1), blank(80, 1), blank(1, 24), blank(80, 24), blank(79, 24), blank(80, 23)}
	for i := range screens {
		screens[i].Title = "t"
	}
	for i, a := range screens {
		for j, b := range screens {
			got, e := rows.Encode(a, b)
			want, f := rows.Full(b)
			if e != ok || f != ok || bytes.Equal(got, want) != (i != j) {
				t.Errorf("from %s to %s: errors %d and %d, %v and %v", drawn(a), drawn(b), e, f, got, want)
			}
		}
	}
	encodes(t, "2x1 to 1x2", screen(2, "ab"), screen(1, "ab"), diff(1, 2, 0, 0, fromBlank, 2, 0, "a", 1, "b"))
	encodes(t, "1x1 to 2x1", screen(1, "a"), screen(2, "a."), diff(2, 1, 0, 0, fromBlank, 1, 0, "a."))
}

// P16.1: blank screens of each size, and the greatest diff of each.
func TestEachSize(t *testing.T) {
	for cols := 1; cols <= mostCols; cols++ {
		for _, n := range []int{1, 2, 3, 12, 23, 24} {
			s := blank(cols, n)
			fulls(t, "blank", s, diff(cols, n, 0, 0, fromBlank, 0))
			encodes(t, "blank", s, s, diff(cols, n, 0, 0, 0, 0))
			s.X, s.Y = cols-1, n-1
			s.Cells[cols*n-1].Rune = 'z'
			want := diff(cols, n, cols-1, n-1, fromBlank, 1, n-1, strings.Repeat(".", cols-1), "z")
			fulls(t, "the last place", s, want)
			for i := range s.Cells {
				s.Cells[i].Rune = 'z'
			}
			d, e := rows.Full(s)
			if e != ok || len(d) != 6+n*(1+9*cols) {
				t.Errorf("%dx%d full of letters: error %d, %d bytes", cols, n, e, len(d))
			}
			leads(t, blank(1, 1), d, s)
		}
	}
}

// P16.1: a or b that doesn't fit, each alone and both.
func TestMisfits(t *testing.T) {
	for _, each := range append(mayNot(), mayButNot(t)...) {
		s := each.screen
		for _, good := range []api.Screen{someScreen(), blank(4, 3), blank(1, 1)} {
			for name, pair := range map[string][2]api.Screen{"a": {s, good}, "b": {good, s}, "both": {s, s}} {
				if d, e := rows.Encode(pair[0], pair[1]); e != errArg || len(d) != 0 {
					t.Errorf("%s: Encode of it as %s: error %d, %v", each.name, name, e, d)
				}
			}
		}
		if d, e := rows.Full(s); e != errArg || len(d) != 0 {
			t.Errorf("%s: Full: error %d, %v", each.name, e, d)
		}
		// ErrArg stands ahead of whatever the diff is.
		for _, d := range [][]byte{nil, {4}, diff(4, 3, 0, 0, 4, 0), diff(4, 3, 0, 0, 0, 0), diff(4, 3, 0, 0, 8, 0), diff(0, 0, 0, 0, 0, 0), diff(4, 3, 0, 0, 4, 0, 0)} {
			refuses(t, each.name, s, d, errArg)
		}
	}
}

// P16.1: Encode and Full of any screens against the model. P16.2: to where they lead.
func TestAnyScreens(t *testing.T) {
	screens := fitting(t, 120)
	for _, each := range append(mayNot(), mayButNot(t)...)[:40] {
		screens = append(screens, each.screen)
	}
	for _, b := range screens {
		full, e := rows.Full(b)
		if want, f := modelFull(b); e != f || !bytes.Equal(full, want) {
			t.Fatalf("Full of %s: error %d and not %d, %v and not %v", drawn(b), e, f, full, want)
		}
		for _, a := range screens {
			d, e := rows.Encode(a, b)
			want, f := modelEncode(a, b)
			if e != f || !bytes.Equal(d, want) {
				t.Fatalf("Encode of %s and %s: error %d and not %d, %v and not %v", drawn(a), drawn(b), e, f, d, want)
			}
			if e == ok {
				leads(t, a, d, b)
				leads(t, a, full, b)
			}
		}
	}
}

// P16.2: screens a few steps apart, one behind the other, as a terminal has them.
func TestOneBehindTheOther(t *testing.T) {
	roll := rolls(2)
	for range 300 {
		a := anyScreen(roll, 1+roll(9), 1+roll(6))
		for range 8 {
			b := altered(roll, a)
			if roll(12) == 0 {
				b = anyScreen(roll, 1+roll(9), 1+roll(6))
			}
			d, e := rows.Encode(a, b)
			if want, _ := modelEncode(a, b); e != ok || !bytes.Equal(d, want) {
				t.Fatalf("from %s to %s: error %d, %v and not %v", drawn(a), drawn(b), e, d, want)
			}
			leads(t, a, d, b)
			a = b
		}
	}
}
