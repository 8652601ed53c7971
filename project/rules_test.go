package project_test

import (
	"sync"
	"testing"

	"spyglass/api"
	"spyglass/project"
)

// spare is a screen with room behind its lists, in which something stands.
func spare(s api.Screen) api.Screen {
	cells, links := make([]api.Cell, len(s.Cells), len(s.Cells)+3), make([]string, len(s.Links), len(s.Links)+3)
	copy(cells, s.Cells)
	copy(links, s.Links)
	s.Cells, s.Links = cells, links
	cells, links = cells[len(cells):cap(cells)], links[len(links):cap(links)]
	for i := range cells {
		cells[i] = api.Cell{Rune: 'z', Pen: api.Pen{Fg: rgb, Link: 7}}
	}
	for i := range links {
		links[i] = "spare"
	}
	return s
}

// whole is a screen with all the room that its lists have.
func whole(s api.Screen) api.Screen {
	s.Cells, s.Links = s.Cells[:cap(s.Cells)], s.Links[:cap(s.Links)]
	return s
}

// scribble writes over all that a screen has, its spare room too.
func scribble(s api.Screen) {
	s = whole(s)
	for i := range s.Cells {
		s.Cells[i] = api.Cell{Rune: 'S', Wide: 1, Pen: api.Pen{Fg: 257, Link: 99}}
	}
	for i := range s.Links {
		s.Links[i] = "scribble"
	}
}

// R1: whatever is handed in, each call ends: nil lists, none, far from anything that may be.
func TestAnyArguments(t *testing.T) {
	roll := rolls(1)
	for _, f := range features() {
		for range 20 {
			s := api.Screen{Cols: roll(9) - 2, Rows: roll(9) - 2, X: roll(9) - 2, Y: roll(9) - 2, Mouse: uint8(roll(4))}
			for range roll(20) {
				s.Cells = append(s.Cells, api.Cell{Rune: rune(roll(300) - 20), Wide: uint8(roll(4)), Pen: anyPen(roll, 5)})
			}
			for range roll(3) {
				s.Links = append(s.Links, string(rune('a'+roll(4))))
			}
			if got, want := project.Screen(s, f), modelScreen(s, f); !same(got, want) {
				t.Fatalf("%s by %d: %s", drawn(s), f, drawn(got))
			}
		}
	}
}

// R2: the same again, by goroutines side by side too.
func TestSameAgain(t *testing.T) {
	screens := some(t, 30)
	var wants []api.Screen
	for _, s := range screens {
		for f := range uint32(fAll + 1) {
			wants = append(wants, project.Screen(s, f))
		}
	}
	var group sync.WaitGroup
	for range 8 {
		group.Go(func() {
			for i, s := range screens {
				for f := range uint32(fAll + 1) {
					if !same(project.Screen(s, f), wants[i*(fAll+1)+int(f)]) {
						t.Errorf("%s by %d: another answer", drawn(s), f)
						return
					}
				}
				if blank, e := project.Blank(i+1, i%24+1); e != 0 || blank.Cols != i+1 || blank.Rows != i%24+1 {
					t.Error("Blank answers", e, drawn(blank))
				}
			}
		})
	}
	group.Wait()
}

// R3: what is handed in stays as it was, its spare room too; also what may not be.
func TestHandedInStays(t *testing.T) {
	for _, s := range some(t, 30) {
		bad := clone(s)
		bad.Mouse = 3
		for _, each := range []api.Screen{s, bad} {
			given := spare(each)
			was := clone(whole(given))
			for _, f := range features() {
				project.Screen(given, f)
				if !same(whole(given), was) {
					t.Fatalf("%s by %d became %s", drawn(was), f, drawn(whole(given)))
				}
			}
		}
	}
}

// R3: an answer is new memory, which shares none with what was handed in, nor with other answers.
func TestNewMemory(t *testing.T) {
	for _, s := range some(t, 30) {
		for _, f := range []uint32{0, fLink, fAll - fLink, fAll - fWide, fAll} {
			given := spare(s)
			was, want := clone(whole(given)), clone(project.Screen(s, f))
			one, other := project.Screen(given, f), project.Screen(given, f)
			scribble(one)
			if !same(other, want) || !same(whole(given), was) || !same(project.Screen(given, f), want) {
				t.Fatalf("%s by %d: shared memory", drawn(s), f)
			}
			scribble(given)
			if !same(other, want) {
				t.Fatalf("%s by %d: the answer was kept", drawn(s), f)
			}
		}
	}
}

// R3: a blank screen is new memory.
func TestNewBlanks(t *testing.T) {
	one, _ := project.Blank(5, 3)
	other, _ := project.Blank(5, 3)
	want := clone(other)
	scribble(one)
	if again, e := project.Blank(5, 3); e != 0 || !same(other, want) || !same(again, want) {
		t.Error("blank screens share memory")
	}
}

// R4: lists without elements, nil or not.
func TestNoElements(t *testing.T) {
	for f := range uint32(fAll + 1) {
		one, other := screen(3, 1, "aW"), screen(3, 1, "aW")
		other.Links = []string{}
		if a, b := project.Screen(one, f), project.Screen(other, f); !same(a, b) || len(a.Cells) != 3 {
			t.Errorf("by %d: %s and %s", f, drawn(a), drawn(b))
		}
		if got := project.Screen(api.Screen{Cols: 1, Rows: 1, Cells: []api.Cell{}, Links: []string{}}, f); !zero(got) {
			t.Errorf("by %d of no cells: %s", f, drawn(got))
		}
	}
}
