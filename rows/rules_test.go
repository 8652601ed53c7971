package rows_test

import (
	"bytes"
	"slices"
	"sync"
	"testing"

	"spyglass/api"
	"spyglass/rows"
)

// spare is a screen with room behind its lists, in which something stands.
func spare(s api.Screen) api.Screen {
	cells, links := make([]api.Cell, len(s.Cells), len(s.Cells)+3), make([]string, len(s.Links), len(s.Links)+3)
	copy(cells, s.Cells)
	copy(links, s.Links)
	s.Cells, s.Links = cells, links
	cells, links = cells[len(cells):cap(cells)], links[len(links):cap(links)]
	for i := range cells {
		cells[i] = api.Cell{Rune: 'z', Pen: api.Pen{Fg: rgb, Link: 7}}
	}
	for i := range links {
		links[i] = "spare"
	}
	return s
}

// whole is a screen with all the room that its lists have.
func whole(s api.Screen) api.Screen {
	s.Cells, s.Links = s.Cells[:cap(s.Cells)], s.Links[:cap(s.Links)]
	return s
}

// scribble writes over all that a screen has, its spare room too.
func scribble(s api.Screen) {
	s = whole(s)
	for i := range s.Cells {
		s.Cells[i] = api.Cell{Rune: 'S', Wide: 1, Pen: api.Pen{Fg: 257, Link: 99}}
	}
	for i := range s.Links {
		s.Links[i] = "scribble"
	}
}

// spareBytes are bytes with room behind them, in which something stands.
func spareBytes(d []byte) []byte {
	return append(append(make([]byte, 0, len(d)+4), d...), 's', 'p', 'a')[:len(d)]
}

// scribbleBytes writes over bytes, their spare room too.
func scribbleBytes(d []byte) {
	d = d[:cap(d)]
	for i := range d {
		d[i] = 'S'
	}
}

// R1: whatever is handed in, each call ends: nil lists, none, far from anything that may be.
func TestAnyArguments(t *testing.T) {
	roll := rolls(1)
	anyOne := func() api.Screen {
		s := api.Screen{Cols: roll(5), Rows: roll(4), Mouse: uint8(roll(9) / 8), Hidden: roll(2) == 0}
		s.X, s.Y = roll(s.Cols+1)-roll(9)/8, roll(s.Rows+1)-roll(9)/8
		for range max(0, s.Cols*s.Rows+roll(9)/7-roll(9)/7) {
			c := anyCell(roll)
			if roll(60) == 0 {
				c = api.Cell{Rune: rune(roll(300) - 20), Wide: uint8(roll(4)), Pen: api.Pen{Fg: api.Color(roll(300)), Link: uint16(roll(2))}}
			}
			s.Cells = append(s.Cells, c)
		}
		for range roll(8) / 7 {
			s.Links = append(s.Links, "x")
		}
		return s
	}
	fit := 0
	for range 20000 {
		a, b := anyOne(), anyOne()
		if roll(2) == 0 {
			b = clone(a)
		}
		if rows.Fits(a) != modelFits(a) {
			t.Fatalf("Fits of %s answers %v", drawn(a), rows.Fits(a))
		}
		if rows.Fits(a) {
			fit++
		}
		d, e := rows.Encode(a, b)
		if want, f := modelEncode(a, b); e != f || !bytes.Equal(d, want) {
			t.Fatalf("Encode of %s and %s: error %d and not %d", drawn(a), drawn(b), e, f)
		}
		d, e = rows.Full(b)
		if want, f := modelFull(b); e != f || !bytes.Equal(d, want) {
			t.Fatalf("Full of %s: error %d and not %d", drawn(b), e, f)
		}
		agrees(t, a, d)
	}
	if fit < 1000 {
		t.Error("only", fit, "screens fit")
	}
}

// R2: the same again, by goroutines side by side too.
func TestSameAgain(t *testing.T) {
	screens := fitting(t, 20)
	for _, each := range mayButNot(t)[:5] {
		screens = append(screens, each.screen)
	}
	type answer struct {
		fits bool
		d    []byte
		e    api.Errno
		s    api.Screen
		f    api.Errno
	}
	ask := func(a, b api.Screen) (all answer) {
		all.fits = rows.Fits(a)
		all.d, all.e = rows.Encode(a, b)
		full, _ := rows.Full(b)
		all.s, all.f = rows.Apply(a, full)
		return all
	}
	var wants []answer
	for _, a := range screens {
		for _, b := range screens {
			wants = append(wants, ask(a, b))
		}
	}
	var group sync.WaitGroup
	for range 8 {
		group.Go(func() {
			for i, a := range screens {
				for j, b := range screens {
					got, want := ask(a, b), wants[i*len(screens)+j]
					if got.fits != want.fits || got.e != want.e || got.f != want.f || !bytes.Equal(got.d, want.d) || !same(got.s, want.s) {
						t.Errorf("from %s to %s: another answer", drawn(a), drawn(b))
						return
					}
				}
			}
		})
	}
	group.Wait()
}

// R3: what is handed in stays as it was, its spare room too; also what doesn't fit, and diffs that aren't right.
func TestHandedInStays(t *testing.T) {
	screens := fitting(t, 20)
	for _, each := range append(mayNot()[:5], mayButNot(t)[:5]...) {
		screens = append(screens, each.screen)
	}
	for _, one := range screens {
		for _, other := range screens {
			a, b := spare(one), spare(other)
			wasA, wasB := clone(whole(a)), clone(whole(b))
			rows.Fits(a)
			right, _ := rows.Encode(a, b)
			full, _ := rows.Full(b)
			for _, d := range [][]byte{right, full, right[:len(right)/2], append(slices.Clone(full), 9)} {
				d = spareBytes(d)
				was := slices.Clone(d[:cap(d)])
				rows.Apply(a, d)
				if !bytes.Equal(d[:cap(d)], was) {
					t.Fatalf("a diff to %s became another", drawn(a))
				}
			}
			if !same(whole(a), wasA) || !same(whole(b), wasB) {
				t.Fatalf("%s or %s became another", drawn(wasA), drawn(wasB))
			}
		}
	}
}

// R3: answers are new memory, which they share with nothing that was handed in, nor with one another.
func TestNewMemory(t *testing.T) {
	screens := fitting(t, 20)
	for _, one := range screens {
		for _, other := range screens {
			a, b := spare(one), spare(other)
			want, _ := modelEncode(one, other)
			d, _ := rows.Encode(a, b)
			again, _ := rows.Encode(a, b)
			scribbleBytes(again)
			full, _ := rows.Full(b)
			wantFull, _ := modelFull(other)
			given, givenFull := spareBytes(d), spareBytes(full)
			got, _ := rows.Apply(a, given)
			byFull, _ := rows.Apply(a, givenFull)
			more, _ := rows.Apply(a, given)
			scribble(more)
			more, _ = rows.Apply(a, givenFull)
			scribble(more)
			if !same(whole(a), whole(spare(one))) || !same(got, other) || !same(byFull, other) {
				t.Fatalf("from %s to %s: shared memory", drawn(one), drawn(other))
			}
			scribbleBytes(given)
			scribbleBytes(givenFull)
			scribble(a)
			scribble(b)
			if !bytes.Equal(d, want) || !bytes.Equal(full, wantFull) || !same(got, other) || !same(byFull, other) {
				t.Fatalf("from %s to %s: an answer was kept", drawn(one), drawn(other))
			}
		}
	}
}

// R4: lists without elements, nil or not. R3: no room behind them is shared.
func TestNoElements(t *testing.T) {
	a, b := screen(2, "ab"), screen(2, "ax")
	room := []string{"spare"}
	a.Links, b.Links = room[:0], []string{}
	d, e := rows.Encode(a, b)
	if e != ok || !bytes.Equal(d, diff(2, 1, 0, 0, 0, 1, 0, "ax")) {
		t.Errorf("Encode: error %d, %v", e, d)
	}
	full, e := rows.Full(b)
	if e != ok || !bytes.Equal(full, diff(2, 1, 0, 0, 4, 1, 0, "ax")) {
		t.Errorf("Full: error %d, %v", e, full)
	}
	for _, d := range [][]byte{d, full} {
		got, e := rows.Apply(a, d)
		if e != ok || !same(got, b) || cap(got.Links) > 0 {
			t.Errorf("Apply: error %d, %s", e, drawn(got))
		}
	}
	if rows.Fits(api.Screen{Cols: 1, Rows: 1, Cells: []api.Cell{}, Links: []string{}}) {
		t.Error("a screen without cells fits")
	}
}
