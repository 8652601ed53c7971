package emul_test

import (
	"fmt"
	"slices"
	"strings"
	"testing"

	"spyglass/api"
	"spyglass/emul"
)

// bytesOf are the bytes of a text of these tests, in which ^ stands for 27.
func bytesOf(text string) []byte { return []byte(strings.ReplaceAll(text, "^", "\x1b")) }

// newTerm is a terminal of a size that may be.
func newTerm(t *testing.T, cols, rows int) *emul.Term {
	t.Helper()
	term, e := emul.New(cols, rows)
	if e != 0 || term == nil {
		t.Fatalf("New(%d, %d) = %v, %d", cols, rows, term, e)
	}
	return term
}

// fed is a terminal of a size that was fed with a text.
func fed(t *testing.T, cols, rows int, text string) *emul.Term {
	t.Helper()
	term := newTerm(t, cols, rows)
	term.Feed(bytesOf(text))
	return term
}

// drawn draws a screen: its rows, with strokes between, a dot for a blank of the zero pen, the figure n for one whose Bg is n, and a tilde for the right half of a wide letter; the cursor; and what else isn't zero.
func drawn(s api.Screen) string {
	var b strings.Builder
	for i, c := range s.Cells {
		if i > 0 && s.Cols > 0 && i%s.Cols == 0 {
			b.WriteByte('/')
		}
		switch {
		case c.Wide == 2:
			b.WriteByte('~')
		case c == api.Cell{Rune: ' '}:
			b.WriteByte('.')
		case c.Rune == ' ' && c.Pen == api.Pen{Bg: c.Pen.Bg} && c.Pen.Bg < 10:
			fmt.Fprint(&b, c.Pen.Bg)
		default:
			b.WriteRune(c.Rune)
		}
	}
	fmt.Fprintf(&b, " %d,%d", s.X, s.Y)
	if s.Hidden {
		b.WriteString(" hidden")
	}
	if s.Mouse != 0 {
		fmt.Fprintf(&b, " mouse %d", s.Mouse)
	}
	if s.Title != "" {
		fmt.Fprintf(&b, " title %s", s.Title)
	}
	if len(s.Links) > 0 {
		fmt.Fprintf(&b, " links %v", s.Links)
	}
	return b.String()
}

// shows has a terminal show what is wanted.
func shows(t *testing.T, term *emul.Term, told, want string) {
	t.Helper()
	s := term.Screen()
	if got := drawn(s); got != want {
		t.Errorf("%q: shows %s, want %s", told, got, want)
	}
	right(t, s, told)
}

// right has a screen be one that may be (P12.2).
func right(t *testing.T, s api.Screen, told string) {
	t.Helper()
	if !emul.Right(s) {
		t.Fatalf("%q: the screen may not be: %+v", told, s)
	}
}

// try has a new terminal of a size that is fed with a text show what is wanted.
func try(t *testing.T, cols, rows int, text, want string) {
	t.Helper()
	shows(t, fed(t, cols, rows, text), text, want)
}

// trial is a text, and what is to be shown behind it.
type trial struct{ text, want string }

// tryAll tries each in a new terminal of a size, behind what comes ahead.
func tryAll(t *testing.T, cols, rows int, ahead string, trials []trial) {
	t.Helper()
	for _, each := range trials {
		try(t, cols, rows, ahead+each.text, each.want)
	}
}

// same tells whether two screens are the same.
func same(a, b api.Screen) bool {
	return a.Cols == b.Cols && a.Rows == b.Rows && slices.Equal(a.Cells, b.Cells) && a.X == b.X && a.Y == b.Y &&
		a.Hidden == b.Hidden && a.Mouse == b.Mouse && a.Title == b.Title && slices.Equal(a.Links, b.Links)
}

// clone is a screen that shares nothing with another one.
func clone(s api.Screen) api.Screen {
	s.Cells, s.Links = slices.Clone(s.Cells), slices.Clone(s.Links)
	return s
}

// both are a terminal and the model of it, which are to show the same behind whatever is done to them.
type both struct {
	t    *testing.T
	term *emul.Term
	want *model
	told []any
}

// newBoth are new ones of a size.
func newBoth(t *testing.T, cols, rows int) *both {
	t.Helper()
	return &both{t: t, term: newTerm(t, cols, rows), want: newModel(cols, rows), told: []any{fmt.Sprintf("New(%d, %d)", cols, rows)}}
}

// hold holds both screens against each other.
func (b *both) hold() {
	b.t.Helper()
	got, want := b.term.Screen(), b.want.screen()
	if !same(got, want) {
		b.t.Fatalf("%+q:\nshows %s\nwants %s\n%+v\n%+v", b.told, drawn(got), drawn(want), got, want)
	}
	if !emul.Right(got) {
		b.t.Fatalf("%+q: the screen may not be: %+v", b.told, got)
	}
}

// do does an act.
func (b *both) do(a api.Act) {
	b.t.Helper()
	b.told = append(b.told, a)
	b.term.Do(a)
	b.want.do(a)
	b.hold()
}

// feed feeds bytes.
func (b *both) feed(text string) {
	b.t.Helper()
	b.told = append(b.told, text)
	b.term.Feed(bytesOf(text))
	b.want.feed(bytesOf(text))
	b.hold()
}

// feedEach feeds bytes, text by text.
func (b *both) feedEach(texts []string) {
	b.t.Helper()
	for _, text := range texts {
		b.feed(text)
	}
}

// resize gives both another size.
func (b *both) resize(cols, rows int) {
	b.t.Helper()
	b.told = append(b.told, fmt.Sprintf("Resize(%d, %d)", cols, rows))
	if e := b.term.Resize(cols, rows); e != 0 {
		b.t.Fatalf("Resize(%d, %d) = %d", cols, rows, e)
	}
	b.want.resize(cols, rows)
	b.hold()
}

// rolls answers numbers that look like none in particular, the same ones each time.
func rolls(seed uint64) func(below int) int {
	return func(below int) int {
		seed = seed*6364136223846793005 + 1442695040888963407
		return int((seed >> 33) % uint64(below))
	}
}
