package rows_test

import (
	"fmt"
	"slices"
	"strings"
	"testing"

	"spyglass/api"
	"spyglass/rows"
)

// P16.1: a diff applied to another screen of its base's size: what isn't told stays.
func TestOtherBases(t *testing.T) {
	a := screen(2, "abcdef")
	a.X, a.Y, a.Hidden, a.Title = 1, 2, true, "t"
	want := screen(2, "abxyef")
	want.Title = "t"
	leads(t, a, diff(2, 3, 0, 0, 0, 1, 1, "xy"), want)
	want.Title = ""
	leads(t, a, diff(2, 3, 0, 0, 2, 0, 1, 1, "xy"), want)
	want.Title, want.Hidden, want.X = "u", true, 1
	leads(t, a, diff(2, 3, 1, 0, 3, 1, []byte("u"), 1, 1, "xy"), want)
	// From blanks nothing of a stays, whatever its size is.
	want = screen(2, "..xy..")
	for _, a := range []api.Screen{a, someScreen(), blank(1, 1), blank(2, 3), blank(80, 24)} {
		leads(t, a, diff(2, 3, 0, 0, 4, 1, 1, "xy"), want)
		leads(t, a, diff(2, 3, 0, 0, 4, 0), blank(2, 3))
	}
	// Rows that are as they were, and titles, may be told again.
	leads(t, a, diff(2, 3, 1, 2, 3, 1, []byte("t"), 3, 0, "ab", 1, "cd", 2, "ef"), a)
	leads(t, a, diff(2, 3, 0, 0, 6, 0, 3, 0, "..", 1, "..", 2, ".."), blank(2, 3))
}

// P16.1: each diff of some screens, applied to its base, to another screen of its size and to one of another size.
func TestEachDiffToEachBase(t *testing.T) {
	screens := fitting(t, 24)
	for _, a := range screens {
		for _, b := range screens {
			d, e := rows.Encode(a, b)
			if e != ok {
				t.Fatal("error", e)
			}
			for _, other := range screens {
				want, f := modelApply(other, d)
				got, e := rows.Apply(other, d)
				if e != f || !same(got, want) {
					t.Fatalf("%v to %s: error %d and not %d, %s and not %s", d[:min(len(d), 60)], drawn(other), e, f, drawn(got), drawn(want))
				}
				if sameSize := other.Cols == b.Cols && other.Rows == b.Rows; d[4]&fromBlank == 0 && !sameSize != (e == errBase) {
					t.Fatalf("%v to %s: error %d", d[:min(len(d), 60)], drawn(other), e)
				}
			}
		}
	}
}

// P16.1: every diff cut off at every place, with what else could be wrong ahead of it.
func TestCutOff(t *testing.T) {
	for i, b := range fitting(t, 30) {
		if b.Cols*b.Rows > 100 {
			continue
		}
		full, _ := rows.Full(b)
		for n := range len(full) {
			refuses(t, "full cut off", someScreen(), full[:n], errShort)
		}
		a := blank(b.Cols, b.Rows)
		a.Title = fmt.Sprint(i)
		d, _ := rows.Encode(a, b)
		for n := range len(d) {
			refuses(t, "cut off", a, d[:n], errShort)
		}
		// Nothing is left behind a diff.
		for n := 1; n < 4; n++ {
			refuses(t, "full and more", a, append(slices.Clone(full), make([]byte, n)...), errRest)
			refuses(t, "more", a, append(slices.Clone(d), make([]byte, n)...), errRest)
		}
	}
	refuses(t, "nil", blank(1, 1), nil, errShort)
	refuses(t, "no bytes", blank(1, 1), []byte{}, errShort)
}

// P16.1: flags of every value.
func TestFlags(t *testing.T) {
	a := screen(2, "ab")
	a.Title = "t"
	for flags := range 256 {
		d := diff(2, 1, 1, 0, flags)
		if flags > 7 {
			refuses(t, "flags alone", a, d, errForm)
			refuses(t, "flags", a, diff(d, 0), errForm)
			refuses(t, "flags, title", a, diff(d, 1, []byte("u"), 0), errForm)
			continue
		}
		refuses(t, "flags alone", a, d, errShort)
		want := clone(a)
		if flags&fromBlank != 0 {
			want = blank(2, 1)
		}
		want.X, want.Hidden = 1, flags&hidden != 0
		if flags&titled != 0 {
			want.Title = "u"
			d = diff(d, 1, []byte("u"))
		}
		leads(t, a, diff(d, 0), want)
	}
}

// P16.1: Cols and Rows of every value: those that no grid may have, and those that aren't a's without the flag 4.
func TestSizes(t *testing.T) {
	a := someScreen()
	for cols := range 256 {
		for n := range 256 {
			full, d := diff(cols, n, 0, 0, fromBlank, 0), diff(cols, n, 0, 0, 0, 0)
			switch {
			case cols < 1 || cols > mostCols || n < 1 || n > mostRows:
				refuses(t, "size", a, full, errForm)
				refuses(t, "size", a, d, errForm)
				refuses(t, "size, cut off", a, d[:5], errForm)
			case cols != a.Cols || n != a.Rows:
				leads(t, a, full, blank(cols, n))
				refuses(t, "size", a, d, errBase)
				refuses(t, "size, cut off", a, d[:5], errBase)
			default:
				leads(t, a, full, blank(cols, n))
				want := clone(a)
				want.X, want.Y, want.Hidden = 0, 0, false
				leads(t, a, d, want)
			}
		}
	}
}

// P16.1: a place of no row, the place of the row ahead, and a lesser one.
func TestPlaces(t *testing.T) {
	a := screen(1, "abc")
	for y := range 256 {
		d := diff(1, 3, 0, 0, 0, 1, y)
		if y > 2 {
			refuses(t, "place alone", a, d, errForm)
			refuses(t, "place", a, diff(d, "x"), errForm)
			continue
		}
		refuses(t, "place alone", a, d, errShort)
		want := clone(a)
		want.Cells[y].Rune = 'x'
		leads(t, a, diff(d, "x"), want)
		for z := range 256 {
			d := diff(1, 3, 0, 0, 0, 2, y, "x", z)
			if z <= y || z > 2 {
				refuses(t, "second place alone", a, d, errForm)
				refuses(t, "second place", a, diff(d, "y"), errForm)
				continue
			}
			refuses(t, "second place alone", a, d, errShort)
			both := clone(want)
			both.Cells[z].Rune = 'y'
			leads(t, a, diff(d, "y"), both)
		}
	}
	// All rows and one more; as many as a byte can tell.
	refuses(t, "four rows", a, diff(1, 3, 0, 0, 0, 4, 0, "x", 1, "x", 2, "x", 2, "x"), errForm)
	refuses(t, "four rows, cut off", a, diff(1, 3, 0, 0, 0, 4, 0, "x", 1, "x", 2, "x"), errShort)
	refuses(t, "255 rows, cut off", a, diff(1, 3, 0, 0, 0, 255, 0, "x", 1, "x", 2, "x"), errShort)
	refuses(t, "a row less", a, diff(1, 3, 0, 0, 0, 1, 0, "x", 1, "x"), errRest)
}

// P16.1: cells that may not be, and colours above 256 by both of their bytes, at each place.
func TestCells(t *testing.T) {
	a := screen(3, "abcdef")
	tryCell := func(name string, laid []byte, want api.Errno) {
		t.Helper()
		for x := range 3 {
			ahead, behind := strings.Repeat("x", x), strings.Repeat("y", 2-x)
			d := diff(3, 2, 0, 0, 0, 1, 1, ahead, laid, behind)
			if want == ok {
				if got, e := rows.Apply(a, d); e != ok || !slices.Equal(diff(got.Cells[3+x]), laid) {
					t.Fatalf("%s at %d: error %d, %s", name, x, e, drawn(got))
				}
				continue
			}
			refuses(t, name, a, d, want)
			// It is told behind the cell, and not ahead of its last byte.
			refuses(t, name+", nothing behind", a, diff(3, 2, 0, 0, 0, 1, 1, ahead, laid), want)
			refuses(t, name+", cut off", a, diff(3, 2, 0, 0, 0, 1, 1, ahead, laid[:8]), errShort)
		}
	}
	for _, r := range []rune{-1, 0, 1, 9, 10, 27, 31, 127, 128, 0x9F, 0x300, 0x301, 0x200B, 0x1100, 0x4E00, 0xAC00, 0xD800, 0xDFFF, 0x1F600, 0x110000, 1 << 24, -1 << 31, 1<<31 - 1} {
		tryCell(fmt.Sprint("rune ", r), diff(api.Cell{Rune: r}), errForm)
	}
	for _, r := range []rune{32, 33, 126, 0xA0, 0xE9, 0x20AC, 0xFFFD, 0x10280, 0x10FFFD} {
		tryCell(fmt.Sprint("rune ", r), diff(api.Cell{Rune: r}), ok)
	}
	for high := range 256 {
		for _, low := range []int{0, 1, 2, 127, 128, 255} {
			want := errForm
			if high*256+low <= 256 {
				want = ok
			}
			tryCell(fmt.Sprint("Fg ", high, low), []byte{0, 0, 0, 'a', byte(high), byte(low), 0, 0, 0}, want)
			tryCell(fmt.Sprint("Bg ", high, low), []byte{0, 0, 0, 'a', 0, 0, byte(high), byte(low), 0}, want)
		}
		tryCell(fmt.Sprint("Attrs ", high), []byte{0, 0, 0, 'a', 0, 0, 0, 0, byte(high)}, ok)
	}
}

// P16.1: a cursor outside, at each bound and beyond.
func TestCursorOutside(t *testing.T) {
	a := someScreen()
	for x := range 256 {
		for _, y := range []int{0, 1, 2, 3, 4, 128, 255} {
			for _, flags := range []int{0, hidden, fromBlank, hidden + fromBlank} {
				d := diff(4, 3, x, y, flags, 0)
				if x < 4 && y < 3 {
					if got, e := rows.Apply(a, d); e != ok || got.X != x || got.Y != y {
						t.Fatalf("cursor %d %d: error %d, %s", x, y, e, drawn(got))
					}
					continue
				}
				refuses(t, "cursor", a, d, errForm)
				// That the screen doesn't fit is told behind all else.
				refuses(t, "cursor, cut off", a, d[:5], errShort)
				refuses(t, "cursor, more", a, diff(d, 0), errRest)
			}
		}
	}
	refuses(t, "cursor, another base", a, diff(4, 2, 4, 0, 0, 0), errBase)
}

// P16.1: titles that may not be, and all lengths of those that may.
func TestTitlesThatMayNot(t *testing.T) {
	a := screen(2, "ab")
	for n := range 256 {
		title := strings.Repeat("x", n)
		for _, flags := range []int{titled, titled + fromBlank} {
			d := diff(2, 1, 0, 0, flags, n, []byte(title), 0)
			if n > 64 {
				refuses(t, "title", a, d, errForm)
				refuses(t, "title, cut off", a, d[:len(d)-2], errShort)
				refuses(t, "title, no rows", a, d[:len(d)-1], errShort)
				refuses(t, "title, more", a, diff(d, 0), errRest)
				continue
			}
			want := clone(a)
			if flags&fromBlank != 0 {
				want = blank(2, 1)
			}
			want.Title = title
			leads(t, a, d, want)
		}
	}
	for _, title := range []string{"\x00", "a\x07", "\x1b", "\x7f", "\u009f", "\u0301", "a\u200bb", "\xff", "\xe2\x82", "\xed\xa0\x80", "\xc1\x81", strings.Repeat("中", 22)} {
		d := diff(2, 1, 0, 0, titled, len(title), []byte(title), 1, 0, "xy")
		refuses(t, fmt.Sprintf("%q", title), a, d, errForm)
		refuses(t, fmt.Sprintf("%q, more", title), a, diff(d, 9), errRest)
		refuses(t, fmt.Sprintf("%q, cut off", title), a, d[:len(d)-1], errShort)
	}
}

// R6: where two errors are there at once, the one that comes first.
func TestOrderOfErrors(t *testing.T) {
	a := screen(2, "abcd")
	bad := api.Cell{Rune: 7}
	for _, each := range []struct {
		name string
		d    []byte
		want api.Errno
	}{
		{"flags, and no size", diff(0, 0, 9, 9, 8), errForm},
		{"flags, and another size", diff(3, 2, 0, 0, 8), errForm},
		{"flags, cut off behind", diff(2, 2, 0, 0, 255), errForm},
		{"no size, cut off ahead of the flags", diff(0, 0, 0, 0), errShort},
		{"another size, cut off ahead of the flags", diff(3, 2, 0, 0), errShort},
		{"no size without the flag 4", diff(81, 2, 0, 0, 0, 0), errForm},
		{"another size, cut off in the title", diff(3, 2, 0, 0, titled, 5), errBase},
		{"another size, and a title", diff(3, 2, 0, 0, titled, 1, 7, 0), errBase},
		{"another size, and a place", diff(3, 2, 0, 0, 0, 1, 2, "xyz"), errBase},
		{"another size, and a cursor", diff(3, 2, 3, 2, 0, 0), errBase},
		{"another size, and more", diff(3, 2, 0, 0, 0, 0, 0), errBase},
		{"a title, cut off in the rows", diff(2, 2, 0, 0, titled, 1, 7, 1, 0, "x"), errShort},
		{"a title, and more", diff(2, 2, 0, 0, titled, 1, 7, 0, 0), errRest},
		{"a place, and a cell", diff(2, 2, 0, 0, 0, 1, 2, bad, "x"), errForm},
		{"a place, cut off in its row", diff(2, 2, 0, 0, 0, 1, 2, 0, 0), errForm},
		{"a place again, cut off in its row", diff(2, 2, 0, 0, 0, 2, 1, "xy", 1, 0, 0), errForm},
		{"a cell, cut off in the next one", diff(2, 2, 0, 0, 0, 1, 0, bad, 0, 0), errForm},
		{"a cell, more", diff(2, 2, 0, 0, 0, 1, 0, "x", bad, 0), errForm},
		{"cut off in a cell, ahead of one that may not be", diff(2, 2, 0, 0, 0, 1, 0, "x", 0, 0, 0, 7), errShort},
		{"a row short, with the next one's place", diff(2, 2, 0, 0, 0, 2, 0, "x", 1), errShort},
		{"a cursor, and a cell", diff(2, 2, 2, 2, 0, 1, 0, bad, "x"), errForm},
		{"a cursor, and more", diff(2, 2, 2, 2, 0, 0, 1), errRest},
		{"a cursor, and a row cut off", diff(2, 2, 2, 2, 0, 1, 0, "x"), errShort},
		{"all there", diff(2, 2, 1, 1, 0, 1, 0, "xy"), ok},
	} {
		got, e := rows.Apply(a, each.d)
		want, f := modelApply(a, each.d)
		if e != each.want || f != each.want || !same(got, want) {
			t.Errorf("%s: error %d and not %d (the model %d), %s", each.name, e, each.want, f, drawn(got))
		}
	}
}

// agrees has Apply answer what the model does. P16.3: what it answers fits, if there is no error; else it is the zero Screen.
func agrees(t *testing.T, a api.Screen, d []byte) api.Errno {
	t.Helper()
	got, e := rows.Apply(a, d)
	if want, f := modelApply(a, d); e != f || !same(got, want) {
		t.Fatalf("%v to %s: error %d and not %d, %s and not %s", d[:min(len(d), 60)], drawn(a), e, f, drawn(got), drawn(want))
	}
	if e == ok && !rows.Fits(got) || e != ok && !zero(got) {
		t.Fatalf("%v to %s: error %d, %s", d[:min(len(d), 60)], drawn(a), e, drawn(got))
	}
	return e
}

// P16.1, P16.3: each byte of diffs turned to each value; a byte put in, taken out.
func TestEachByteTurned(t *testing.T) {
	s := screen(2, "ab.é")
	s.Cells[3].Pen, s.Title, s.X = api.Pen{Fg: 256, Bg: 1, Attrs: 3}, "tü", 1
	small := screen(1, "a")
	small.Hidden = true
	for _, b := range []api.Screen{s, small, screen(2, "abcd")} {
		full, _ := rows.Full(b)
		d, _ := rows.Encode(blank(b.Cols, b.Rows), b)
		for _, d := range [][]byte{full, d} {
			for i := range d {
				for value := range 256 {
					turned := slices.Clone(d)
					turned[i] = byte(value)
					agrees(t, blank(b.Cols, b.Rows), turned)
					agrees(t, someScreen(), turned)
					agrees(t, s, slices.Insert(slices.Clone(d), i, byte(value)))
				}
				agrees(t, s, slices.Delete(slices.Clone(d), i, i+1))
			}
		}
	}
}

// P16.1, P16.3: any bytes applied to any screen.
func TestAnyBytes(t *testing.T) {
	roll := rolls(3)
	screens := fitting(t, 40)
	met := map[api.Errno]int{}
	for range 60000 {
		a := screens[roll(len(screens))]
		var d []byte
		// Bytes that often are those of a diff.
		if roll(8) > 0 {
			d = diff(roll(5)+1, roll(4)+1, roll(3), roll(3), roll(9))
			if roll(2) == 0 {
				d[0], d[1] = byte(a.Cols), byte(a.Rows)
			}
		}
		for range roll(5) {
			switch roll(3) {
			case 0:
				d = diff(d, roll(4))
			case 1:
				d = diff(d, roll(256))
			default:
				c := anyCell(roll)
				if roll(30) == 0 {
					c.Rune = rune(roll(40))
				}
				d = diff(d, slices.Repeat(diff(c), 1+roll(5)))
			}
		}
		met[agrees(t, a, d)]++
	}
	for _, e := range []api.Errno{ok, errShort, errForm, errRest, errBase} {
		if met[e] < 100 {
			t.Errorf("the error %d came %d times", e, met[e])
		}
	}
}
