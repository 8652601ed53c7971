package emul_test

import (
	"bytes"
	"slices"
	"strings"
	"sync"
	"testing"

	"spyglass/api"
	"spyglass/emul"
	"spyglass/parse"
)

// rich is a text in which letters, sequences and commands of many sorts stand.
const rich = "a中\xe2\x82é^[2;3r^[?6;25l^[41;38;5;9m字\xff^]0;tü中\x07b^]8;;x\x07cd^[3@\t^7^[?1049h国^M^[1;2H\x7f^[4hxy^]8;;\x07^[?1003hz^[2b^]2;q\xe4\xb8^\\^8\n^[P^[?1049l^[1\rJw^[9\x18e^[38;2;1;2;3mf^X\x18g"

// cut feeds a new terminal with bytes in pieces that end at some places.
func cut(t *testing.T, cols, rows int, b []byte, places ...int) api.Screen {
	t.Helper()
	term := newTerm(t, cols, rows)
	from := 0
	for _, to := range append(places, len(b)) {
		term.Feed(b[from:to])
		from = to
	}
	return term.Screen()
}

// P12.3: bytes in two and in three pieces, cut at each place, with pieces that have none.
func TestTwoPieces(t *testing.T) {
	b := bytesOf(rich)
	for _, size := range [][2]int{{7, 4}, {2, 2}, {20, 6}} {
		want := cut(t, size[0], size[1], b)
		for i := range len(b) + 1 {
			if got := cut(t, size[0], size[1], b, i); !same(got, want) {
				t.Fatalf("cut at %d: %s, want %s", i, drawn(got), drawn(want))
			}
			for j := i; j <= min(i+5, len(b)); j++ {
				if got := cut(t, size[0], size[1], b, i, j); !same(got, want) {
					t.Fatalf("cut at %d and %d: %s, want %s", i, j, drawn(got), drawn(want))
				}
			}
		}
	}
}

// P12.3: any bytes in any pieces, one by one, and as the acts that they mean.
func TestAnyPieces(t *testing.T) {
	t.Parallel()
	roll := rolls(6)
	for range rounds(600) {
		cols, rows := anySize(roll)
		b := bytesOf(anyBytes(roll, 1+roll(150)))
		want := cut(t, cols, rows, b)
		right(t, want, string(b))
		var places []int
		for i := range len(b) + 1 {
			if roll(3) == 0 {
				places = append(places, i)
			}
		}
		if got := cut(t, cols, rows, b, places...); !same(got, want) {
			t.Fatalf("%q, cut at %v: %s, want %s", b, places, drawn(got), drawn(want))
		}
		term := newTerm(t, cols, rows)
		for _, each := range b {
			term.Feed([]byte{each})
			term.Feed(nil)
		}
		if got := term.Screen(); !same(got, want) {
			t.Fatalf("%q, one by one: %s, want %s", b, drawn(got), drawn(want))
		}
		term = newTerm(t, cols, rows)
		for _, a := range parse.Acts(b) {
			term.Do(a)
		}
		if got := term.Screen(); !same(got, want) {
			t.Fatalf("%q, act by act: %s, want %s", b, drawn(got), drawn(want))
		}
	}
}

// P12.2: the screen is one that may be behind each byte, whatever comes, in terminals of all sizes.
func TestRightWhateverComes(t *testing.T) {
	t.Parallel()
	roll := rolls(7)
	for cols := 1; cols <= mostCols; cols += 1 + cols/9 {
		for rows := 1; rows <= mostRows; rows += 1 + rows/4 {
			term := newTerm(t, cols, rows)
			for range rounds(40) {
				text := anyBytes(roll, 1+roll(30))
				term.Feed(bytesOf(text))
				right(t, term.Screen(), text)
			}
			for range rounds(100) {
				a := anyAct(roll)
				term.Do(a)
				if roll(8) == 0 {
					right(t, term.Screen(), "an act")
				}
			}
			if s := term.Screen(); s.Cols != cols || s.Rows != rows {
				t.Fatalf("a terminal of %d %d shows %d %d", cols, rows, s.Cols, s.Rows)
			}
		}
	}
}

// R1: a nil terminal: nothing, the zero Screen, ErrArg.
func TestNil(t *testing.T) {
	var term *emul.Term
	for range 2 {
		for _, a := range append(doing(), api.Act{}, api.Act{Kind: 4, Final: 'm', Params: make([]int, 20)}) {
			term.Do(a)
		}
		term.Feed(nil)
		term.Feed(bytesOf(rich))
		if s := term.Screen(); !same(s, api.Screen{}) {
			t.Errorf("a nil terminal shows %+v", s)
		}
		for _, cols := range []int{-1, 0, 1, 80, 81} {
			for _, rows := range []int{-1, 0, 1, 24, 25} {
				if e := term.Resize(cols, rows); e != api.ErrArg {
					t.Errorf("Resize(%d, %d) of a nil terminal = %d", cols, rows, e)
				}
			}
		}
	}
}

// R4: lists without elements, nil or not.
func TestNoElements(t *testing.T) {
	for _, a := range []api.Act{{Kind: 4, Final: 'm'}, {Kind: 4, Final: 'C'}, {Kind: 4, Mark: '?', Final: 'h'}, {Kind: 1, Rune: 'x'}} {
		one, other := fed(t, 4, 1, "^[1ma"), fed(t, 4, 1, "^[1ma")
		one.Do(a)
		a.Params, a.Text = []int{}, []byte{}
		other.Do(a)
		one.Feed([]byte("b"))
		other.Feed([]byte("b"))
		other.Feed([]byte{})
		if !same(one.Screen(), other.Screen()) {
			t.Errorf("%+v makes %s and %s", a, drawn(one.Screen()), drawn(other.Screen()))
		}
	}
}

// R2: the same again, by goroutines side by side too; terminals have nothing to do with one another.
func TestSameAgain(t *testing.T) {
	roll := rolls(8)
	text := rich + anyBytes(roll, 300) + sixteen() + rich
	want := fed(t, 9, 4, text).Screen()
	var group sync.WaitGroup
	for range 8 {
		group.Go(func() {
			term, e := emul.New(9, 4)
			if e != 0 {
				t.Error(e)
				return
			}
			for _, b := range bytesOf(text) {
				term.Feed([]byte{b})
			}
			if got := term.Screen(); !same(got, want) {
				t.Errorf("shows %s, and showed %s", drawn(got), drawn(want))
			}
		})
	}
	group.Wait()
	one, other := newTerm(t, 9, 4), newTerm(t, 9, 4)
	for _, b := range bytesOf(text) {
		one.Feed([]byte{b})
		other.Feed(bytesOf("^[31mz^]8;;z\x07\n^[2J^H"))
	}
	if !same(one.Screen(), want) {
		t.Error("terminals have to do with one another")
	}
}

// R2: looking changes nothing.
func TestLookingChangesNothing(t *testing.T) {
	b := newBoth(t, 6, 3)
	roll := rolls(9)
	for range rounds(500) {
		b.feed(anyBytes(roll, 1))
		if one, other := b.term.Screen(), b.term.Screen(); !same(one, other) {
			t.Fatalf("shows %s, and then %s", drawn(one), drawn(other))
		}
		emul.Right(b.term.Screen())
	}
}

// R3: what is handed in stays as it is, its spare room too.
func TestHandedInStays(t *testing.T) {
	all := append(bytesOf(rich), "spare room"...)
	kept := slices.Clone(all)
	term := newTerm(t, 7, 4)
	term.Feed(all[:len(all)-10])
	if !bytes.Equal(all, kept) {
		t.Error("Feed changed the bytes")
	}
	numbers, text := []int{0, 38, 5, 300, 4, 7, 8}, []byte("8;;text and spare room")
	for _, final := range "@PXABeCaDEFG`dHfIZJKLMSTbghlmrsu" {
		for _, n := range []int{0, 1, 2, 4} {
			term.Do(api.Act{Kind: 4, Params: numbers[:n], Final: byte(final)})
			term.Do(api.Act{Kind: 4, Params: numbers[:n], Mark: '?', Final: byte(final)})
		}
	}
	term.Do(api.Act{Kind: 5, Text: text[:7]})
	term.Do(api.Act{Kind: 5, Text: text[:3]})
	if !slices.Equal(numbers, []int{0, 38, 5, 300, 4, 7, 8}) || string(text) != "8;;text and spare room" {
		t.Error("Do changed the act")
	}
	s := someScreen(t)
	want := clone(s)
	s.Cells = append(s.Cells, api.Cell{Rune: 'z'})[:len(want.Cells)]
	s.Links = append(s.Links, "z")[:len(want.Links)]
	if !emul.Right(s) || !same(s, want) || s.Cells[:len(want.Cells)+1][len(want.Cells)].Rune != 'z' || s.Links[:len(want.Links)+1][len(want.Links)] != "z" {
		t.Error("Right changed the screen")
	}
}

// R3: what was handed in and is changed behind the call changes nothing.
func TestNotKept(t *testing.T) {
	term := newTerm(t, 3, 1)
	b := []byte("\x1b]0;title\x07\x1b]8;;link\x07a\x1b[4")
	term.Feed(b)
	clear(b)
	text := []byte("8;;other")
	term.Do(api.Act{Kind: 5, Text: text})
	clear(text)
	term.Feed([]byte("h"))
	term.Do(api.Act{Kind: 1, Rune: 'b'})
	shows(t, term, "behind clearing", "ab. 2,0 title title links [link other]")
	text = []byte("2;other")
	term.Do(api.Act{Kind: 5, Text: text})
	copy(text, "2;wrong")
	numbers := []int{31}
	term.Do(api.Act{Kind: 4, Params: numbers, Final: 'm'})
	numbers[0] = 32
	term.Feed([]byte("c"))
	shows(t, term, "behind writing over", "abc 2,0 title other links [link other]")
	if c := term.Screen().Cells[2]; c.Pen.Fg != 2 {
		t.Errorf("the pen is %+v", c.Pen)
	}
}

// scribble writes over all that a screen has, its spare room too.
func scribble(s api.Screen) {
	cells, links := s.Cells[:cap(s.Cells)], s.Links[:cap(s.Links)]
	for i := range cells {
		cells[i] = api.Cell{Rune: 'S', Wide: 1, Pen: api.Pen{Fg: 257, Link: 99}}
	}
	for i := range links {
		links[i] = "scribble"
	}
}

// R3: a Screen is new memory: it may be written over without any later answer being another, and stays as it is, whatever the terminal does.
func TestNewMemory(t *testing.T) {
	roll := rolls(10)
	for range rounds(200) {
		cols, rows := 1+roll(9), 1+roll(5)
		term, m := newTerm(t, cols, rows), newModel(cols, rows)
		var answers, wants []api.Screen
		for i := range 40 {
			text := anyBytes(roll, 1+roll(6))
			if roll(10) == 0 {
				text = "^[?47h" + link(letter(i%20)) + "x"
			}
			term.Feed(bytesOf(text))
			m.feed(bytesOf(text))
			scribble(term.Screen())
			s := term.Screen()
			if want := m.screen(); !same(s, want) {
				t.Fatalf("behind writing over: shows %s, want %s", drawn(s), drawn(want))
			}
			answers, wants = append(answers, s), append(wants, clone(s))
		}
		for i, s := range answers {
			if !same(s, wants[i]) {
				t.Fatalf("an answer is %s now, and was %s", drawn(s), drawn(wants[i]))
			}
		}
	}
}

// R3: two answers share nothing, those of new terminals neither.
func TestAnswersShareNothing(t *testing.T) {
	for _, text := range []string{"", link("x") + "ab" + link("y") + "c", sixteen()} {
		term := fed(t, 20, 2, text)
		one, other := term.Screen(), term.Screen()
		want := clone(other)
		scribble(one)
		if !same(other, want) || !same(term.Screen(), want) {
			t.Errorf("%q: answers share memory", text)
		}
		if again := fed(t, 20, 2, text).Screen(); !same(again, want) {
			t.Errorf("%q: terminals share memory", text)
		}
	}
}

// P12.1: what is far beyond bounds ends soon: many sequences with the greatest numbers.
func TestGreatestNumbers(t *testing.T) {
	var b strings.Builder
	for _, final := range "@PXABeCaDEFG`dHfIZJKLMSTbghlmrsu" {
		b.WriteString("a^[9999;9999" + string(final) + "中^[9999" + string(final))
	}
	term := newBoth(t, 80, 24)
	term.feed(b.String())
	term.feed("^[9999b^[9999I^[9999Z^[9999b")
}
