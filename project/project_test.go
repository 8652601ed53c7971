package project_test

import (
	"math"
	"strings"
	"testing"

	"spyglass/api"
	"spyglass/emul"
	"spyglass/project"
)

// P15.1: the chapter's examples.

func TestExamples(t *testing.T) {
	try(t, screen(4, 1, "Wab"), fAll-fWide, "?.ab at 0,0")
	try(t, screen(4, 1, "Wab"), 0, "?.ab at 0,0")
	s := screen(2, 1, "ab")
	s.Cells[1].Pen.Link, s.Links = 1, []string{"x"}
	try(t, s, fAll-fLink, "ab at 0,0")
	try(t, s, 0, "ab at 0,0")
	for _, f := range features() {
		if got := project.Screen(api.Screen{Rows: 1}, f); !zero(got) {
			t.Errorf("of Cols 0 by %d: %s", f, drawn(got))
		}
		if got := project.Screen(api.Screen{}, f); !zero(got) {
			t.Errorf("of the zero Screen by %d: %s", f, drawn(got))
		}
	}
}

// P15.1: Screen of one with everything, by each set of features that the table names.
func TestEachFeature(t *testing.T) {
	const (
		wides    = "W~W~W~/a.?W~€"
		narrows  = "?.?.?./a.??.€"
		by16     = " 0:5,5,1,0 1:5,5,1,0 2:5,5,1,0 3:5,5,1,0 4:8,1,130,0 5:8,1,130,0 6:5,5,1,0 7:0,1,0,0 8:8,1,130,0 9:16,1,0,0 10:16,1,0,0"
		linked16 = " 0:5,5,1,1 1:5,5,1,1 2:5,5,1,1 3:5,5,1,1 4:8,1,130,2 5:8,1,130,2 6:5,5,1,1 7:0,1,0,0 8:8,1,130,2 9:16,1,0,2 10:16,1,0,2 11:0,0,0,3"
		by256    = " 0:22,22,1,0 1:22,22,1,0 2:22,22,1,0 3:22,22,1,0 4:256,17,130,0 5:256,17,130,0 6:22,22,1,0 7:0,17,0,0 8:256,17,130,0 9:16,1,0,0 10:16,1,0,0"
		true16   = " 0:16777471,5,1,0 1:16777471,5,1,0 2:16777471,5,1,0 3:16777471,5,1,0 4:8,16777216,130,0 5:8,16777216,130,0 6:16777471,5,1,0 7:0,1,0,0 8:8,16777216,130,0 9:16,1,0,0 10:16,1,0,0"
		true256  = " 0:16777471,22,1,0 1:16777471,22,1,0 2:16777471,22,1,0 3:16777471,22,1,0 4:256,16777216,130,0 5:256,16777216,130,0 6:16777471,22,1,0 7:0,17,0,0 8:256,16777216,130,0 9:16,1,0,0 10:16,1,0,0"
		linked   = " 0:16777471,22,1,1 1:16777471,22,1,1 2:16777471,22,1,1 3:16777471,22,1,1 4:256,16777216,130,2 5:256,16777216,130,2 6:16777471,22,1,1 7:0,17,0,0 8:256,16777216,130,2 9:16,1,0,2 10:16,1,0,2 11:0,0,0,3"
		linkedF  = " 0:16777471,5,1,1 1:16777471,5,1,1 2:16777471,5,1,1 3:16777471,5,1,1 4:8,16777216,130,2 5:8,16777216,130,2 6:16777471,5,1,1 7:0,1,0,0 8:8,16777216,130,2 9:16,1,0,2 10:16,1,0,2 11:0,0,0,3"
		linkedT  = " 0:22,22,1,1 1:22,22,1,1 2:22,22,1,1 3:22,22,1,1 4:256,17,130,2 5:256,17,130,2 6:22,22,1,1 7:0,17,0,0 8:256,17,130,2 9:16,1,0,2 10:16,1,0,2 11:0,0,0,3"
		cursor   = " at 5,1 hidden"
		mouse    = " mouse 2"
		title    = " title tü中"
		leads    = " links [x y http://z]"
	)
	for _, each := range []struct {
		features uint32
		want     string
	}{
		{0, narrows + by16 + cursor},
		{fColor, narrows + by256 + cursor},
		{fTrue, narrows + true16 + cursor},
		{fColor + fTrue, narrows + true256 + cursor},
		{fWide, wides + by16 + cursor},
		{fLink, narrows + linked16 + cursor + leads},
		{fTitle, narrows + by16 + cursor + title},
		{fMouse, narrows + by16 + cursor + mouse},
		{fAll, wides + linked + cursor + mouse + title + leads},
		{fAll - fColor, wides + linkedF + cursor + mouse + title + leads},
		{fAll - fTrue, wides + linkedT + cursor + mouse + title + leads},
		{fAll - fWide, narrows + linked + cursor + mouse + title + leads},
		{fAll - fLink, wides + true256 + cursor + mouse + title},
		{fAll - fTitle, wides + linked + cursor + mouse + leads},
		{fAll - fMouse, wides + linked + cursor + title + leads},
		{fColor + fTitle, narrows + by256 + cursor + title},
		{fColor + fTitle + fTrue + fMouse, narrows + true256 + cursor + mouse + title},
	} {
		try(t, someScreen(), each.features, each.want)
		// Bits that no feature has play no part.
		for _, more := range []uint32{64, 128, 1 << 16, 1 << 31, strange} {
			try(t, someScreen(), each.features+more, each.want)
		}
	}
}

// P15.1: the ? and the blank of a wide letter have its pen, wherever it stands.
func TestWideLetters(t *testing.T) {
	for text, want := range map[string]string{
		"W": "?.", "aW": "a?.", "Wa": "?.a", "WW": "?.?.", "aWW": "a?.?.", "WWa": "?.?.a", "WaW": "?.a?.", "aWb": "a?.b", "?W?": "??.?", " W ": ".?..", "a?": "a?",
	} {
		s := screen(len(want), 1, text)
		try(t, s, fAll-fWide, want+" at 0,0")
		for i := range s.Cells {
			s.Cells[i].Pen = api.Pen{Fg: 2, Bg: 3, Attrs: 255, Link: 1}
		}
		s.Links = []string{"x"}
		for _, f := range []uint32{0, fLink, fWide, fWide + fLink} {
			link := uint16(f & fLink / fLink)
			for i, c := range project.Screen(s, f).Cells {
				if c.Pen != (api.Pen{Fg: 2, Bg: 3, Attrs: 255, Link: link}) {
					t.Errorf("%s by %d: the pen at %d is %+v", text, f, i, c.Pen)
				}
			}
		}
	}
	cells := project.Screen(screen(4, 1, "aWb"), fAll-fWide).Cells
	if cells[1] != (api.Cell{Rune: 63}) || cells[2] != (api.Cell{Rune: 32}) {
		t.Error("of a wide letter was made", cells[1:3])
	}
}

// P15.1: a colour that one can't have, of both or of one alone, in one cell or in all.
func TestColours(t *testing.T) {
	for c, want := range map[api.Color][4]api.Color{ // without both, with FColor, with FTrue, with both
		0: {0, 0, 0, 0}, 1: {1, 1, 1, 1}, 16: {16, 16, 16, 16}, 17: {1, 17, 1, 17}, 22: {5, 22, 5, 22}, 232: {16, 232, 16, 232}, 256: {8, 256, 8, 256},
		rgb: {1, 17, rgb, rgb}, rgb + 255: {5, 22, rgb + 255, rgb + 255}, lastRgb: {16, 232, lastRgb, lastRgb},
	} {
		for f := range uint32(fAll + 1) {
			s := screen(6, 1, "aWbW")
			s.Cells[0].Pen.Fg = c
			s.Cells[3].Pen.Bg = c
			for i := 4; i <= 5; i++ {
				s.Cells[i].Pen.Fg, s.Cells[i].Pen.Bg = c, c
			}
			got, w := project.Screen(s, f).Cells, want[f%4]
			for i, p := range []api.Pen{{Fg: w}, {}, {}, {Bg: w}, {Fg: w, Bg: w}, {Fg: w, Bg: w}} {
				if got[i].Pen != p {
					t.Errorf("the colour %d by %d: at %d stands %+v", c, f, i, got[i].Pen)
				}
			}
		}
	}
}

// P15.1: links in cells, in the pen of a wide letter alone, and as many as there may be.
func TestLinks(t *testing.T) {
	s := screen(4, 1, "aWb")
	for i := 1; i <= 2; i++ {
		s.Cells[i].Pen.Link = 1
	}
	s.Links = []string{"x"}
	try(t, s, fLink, "a?.b 1:0,0,0,1 2:0,0,0,1 at 0,0 links [x]")
	try(t, s, fLink+fWide, "aW~b 1:0,0,0,1 2:0,0,0,1 at 0,0 links [x]")
	try(t, s, fWide, "aW~b at 0,0")
	try(t, s, 0, "a?.b at 0,0")
	s = screen(20, 1, strings.Repeat("a", 20))
	for i := range mostLinks {
		s.Cells[i+2].Pen.Link = uint16(i + 1)
		s.Links = append(s.Links, strings.Repeat("x", 64-i))
	}
	if got := project.Screen(s, fLink); !same(got, s) {
		t.Error("with links:", drawn(got))
	}
	try(t, s, fAll-fLink, strings.Repeat("a", 20)+" at 0,0")
}

// P15.1: titles, mice, cursors, each at its bounds.
func TestTheRest(t *testing.T) {
	for _, title := range []string{"", " ", "a", "?", "中", "\uFFFD", strings.Repeat("x", 64), strings.Repeat("中", 21)} {
		for mouse := range uint8(3) {
			for _, at := range [][2]int{{0, 0}, {4, 0}, {0, 2}, {4, 2}, {2, 1}} {
				for _, hidden := range []bool{false, true} {
					s := screen(5, 3, "WabcWWaWabc")
					s.Title, s.Mouse, s.X, s.Y, s.Hidden = title, mouse, at[0], at[1], hidden
					for f := range uint32(fAll + 1) {
						want := s
						want.Cells = project.Screen(screen(5, 3, "WabcWWaWabc"), f).Cells
						if f&fTitle == 0 {
							want.Title = ""
						}
						if f&fMouse == 0 {
							want.Mouse = 0
						}
						if got := project.Screen(s, f); !same(got, want) {
							t.Fatalf("%s by %d: %s", drawn(s), f, drawn(got))
						}
					}
				}
			}
		}
	}
}

// P15.1: any screens by any features, against the model.
func TestAnyScreens(t *testing.T) {
	roll := rolls(151)
	for i, s := range some(t, 400) {
		l := features()
		if i >= 20 {
			l = []uint32{uint32(roll(64)), uint32(roll(64)), uint32(roll(1<<31-1)) * 2, math.MaxUint32 - uint32(roll(64))}
		}
		for _, f := range l {
			if got, want := project.Screen(s, f), modelScreen(s, f); !same(got, want) {
				t.Fatalf("%s by %d: %s, and not %s", drawn(s), f, drawn(got), drawn(want))
			}
		}
	}
}

// P15.1: the zero Screen, of one that may not be.
func TestScreensThatMayNotBe(t *testing.T) {
	for name, alter := range map[string]func(s *api.Screen){
		"Cols 0":                   func(s *api.Screen) { s.Cols = 0 },
		"Cols 0 without cells":     func(s *api.Screen) { s.Cols, s.X, s.Cells, s.Links = 0, 0, nil, nil },
		"Cols -6":                  func(s *api.Screen) { s.Cols = -6 },
		"Cols 81":                  func(s *api.Screen) { *s = screen(81, 1, strings.Repeat("a", 81)) },
		"Cols of the least number": func(s *api.Screen) { s.Cols = math.MinInt },
		"Cols of the greatest":     func(s *api.Screen) { s.Cols = math.MaxInt },
		"Rows 0":                   func(s *api.Screen) { s.Rows = 0 },
		"Rows 0 without cells":     func(s *api.Screen) { s.Rows, s.Y, s.Cells, s.Links = 0, 0, nil, nil },
		"Rows -2":                  func(s *api.Screen) { s.Rows = -2 },
		"both turned":              func(s *api.Screen) { s.Cols, s.Rows = -6, -2 },
		"Rows 25":                  func(s *api.Screen) { *s = screen(1, 25, strings.Repeat("a", 25)) },
		"Rows of the least number": func(s *api.Screen) { s.Rows = math.MinInt },
		"Rows of the greatest":     func(s *api.Screen) { s.Rows = math.MaxInt },
		"both so great":            func(s *api.Screen) { s.Cols, s.Rows = math.MaxInt, math.MaxInt },
		"a cell less":              func(s *api.Screen) { *s = screen(3, 2, "abcde") },
		"a cell more":              func(s *api.Screen) { *s = screen(3, 2, "abcdefg") },
		"no cells":                 func(s *api.Screen) { s.Cells, s.Links = nil, nil },
		"a row more":               func(s *api.Screen) { s.Rows = 3 },
		"a left half alone":        func(s *api.Screen) { s.Cells[1] = api.Cell{Rune: ' ', Pen: s.Cells[1].Pen} },
		"a right half alone":       func(s *api.Screen) { s.Cells[0] = api.Cell{Rune: ' ', Pen: s.Cells[0].Pen} },
		"a left half at the end":   func(s *api.Screen) { *s = screen(2, 2, "aWb") },
		"halves of two pens":       func(s *api.Screen) { s.Cells[1].Pen.Attrs = 9 },
		"halves of two colours":    func(s *api.Screen) { s.Cells[1].Pen.Bg = 5 },
		"a link at one half":       func(s *api.Screen) { s.Cells[1].Pen.Link = 0 },
		"a half's rune":            func(s *api.Screen) { s.Cells[1].Rune = ' ' },
		"a wide rune, narrow":      func(s *api.Screen) { s.Cells[6].Rune = 0x4E00 },
		"a narrow rune, wide":      func(s *api.Screen) { s.Cells[0].Rune = 'a' },
		"a rune of no width":       func(s *api.Screen) { s.Cells[6].Rune = 7 },
		"a rune below 0":           func(s *api.Screen) { s.Cells[6].Rune = -1 },
		"Wide 3":                   func(s *api.Screen) { s.Cells[6].Wide = 3 },
		"Fg 257":                   func(s *api.Screen) { s.Cells[7].Pen.Fg = 257 },
		"Bg 257":                   func(s *api.Screen) { s.Cells[7].Pen.Bg = 257 },
		"Fg below three parts":     func(s *api.Screen) { s.Cells[7].Pen.Fg = rgb - 1 },
		"Bg beyond":                func(s *api.Screen) { s.Cells[7].Pen.Bg = lastRgb + 1 },
		"the greatest Bg":          func(s *api.Screen) { s.Cells[7].Pen.Bg = math.MaxUint32 },
		"a link that may not be":   func(s *api.Screen) { s.Links[0] = "a b" },
		"a link without bytes":     func(s *api.Screen) { s.Links[2] = "" },
		"a link too long":          func(s *api.Screen) { s.Links[1] = strings.Repeat("x", 65) },
		"a link twice":             func(s *api.Screen) { s.Links[1] = "x" },
		"a link of no cell":        func(s *api.Screen) { s.Links = append(s.Links, "w") },
		"links of no cells":        func(s *api.Screen) { *s = screen(2, 1, "ab"); s.Links = []string{"x"} },
		"a cell of no link":        func(s *api.Screen) { s.Links = s.Links[:2] },
		"cells without links":      func(s *api.Screen) { s.Links = nil },
		"numbers out of order": func(s *api.Screen) {
			s.Cells[7].Pen.Link, s.Cells[8].Pen.Link = 3, 3
			s.Cells[4].Pen, s.Cells[5].Pen = api.Pen{}, api.Pen{}
		},
		"the first number isn't 1":  func(s *api.Screen) { s.Cells[6].Pen.Link = 65535 },
		"more links than may be":    func(s *api.Screen) { *s = screen(17, 1, strings.Repeat("a", 17)); s.Links = inOrderOf(s.Cells, 17) },
		"X -1":                      func(s *api.Screen) { s.X = -1 },
		"X beyond":                  func(s *api.Screen) { s.X = 6 },
		"Y -1":                      func(s *api.Screen) { s.Y = -1 },
		"Y beyond":                  func(s *api.Screen) { s.Y = 2 },
		"X of the least number":     func(s *api.Screen) { s.X = math.MinInt },
		"Y of the greatest":         func(s *api.Screen) { s.Y = math.MaxInt },
		"a mouse 3":                 func(s *api.Screen) { s.Mouse = 3 },
		"a mouse 255":               func(s *api.Screen) { s.Mouse = 255 },
		"a title too long":          func(s *api.Screen) { s.Title = strings.Repeat("x", 65) },
		"a title of no runes":       func(s *api.Screen) { s.Title = "\xff" },
		"a title cut within a rune": func(s *api.Screen) { s.Title = "a\xe4\xb8" },
		"a title with a control":    func(s *api.Screen) { s.Title = "a\x07" },
		"a title of no width":       func(s *api.Screen) { s.Title = "e\u0301" },
	} {
		s := someScreen()
		alter(&s)
		if emul.Right(s) {
			t.Fatal(name, "may be")
		}
		for _, f := range features() {
			if got := project.Screen(s, f); !zero(got) {
				t.Errorf("%s, by %d: %q", name, f, drawn(got))
				break
			}
		}
	}
}

// inOrderOf has so many cells lead to links of their own.
func inOrderOf(cells []api.Cell, n int) (links []string) {
	for i := range n {
		cells[i].Pen.Link = uint16(i + 1)
		links = append(links, strings.Repeat("x", i+1))
	}
	return links
}

// P15.1: Blank of sizes that may be: the screen of a new terminal.
func TestBlank(t *testing.T) {
	for cols := 1; cols <= mostCols; cols++ {
		for rows := 1; rows <= mostRows; rows++ {
			s, e := project.Blank(cols, rows)
			if want := screen(cols, rows, strings.Repeat(" ", cols*rows)); e != 0 || !same(s, want) {
				t.Fatalf("of %d and %d: %d, %s", cols, rows, e, drawn(s))
			}
			term, e := emul.New(cols, rows)
			if e != 0 || !same(s, term.Screen()) || !emul.Right(s) {
				t.Fatalf("of %d and %d: not a new terminal's screen", cols, rows)
			}
		}
	}
}

// P15.1: Blank of sizes that no grid may have: ErrArg and the zero Screen.
func TestBlankOfNone(t *testing.T) {
	sizes := []int{math.MinInt, math.MinInt + 1, math.MinInt32, -256, -81, -24, -2, -1, 0, 1, 2, 23, 24, 25, 26, 79, 80, 81, 82, 255, 256, 257, 1<<16 + 1, 1<<32 + 1, math.MaxInt32, math.MaxInt - 1, math.MaxInt}
	for _, cols := range sizes {
		for _, rows := range sizes {
			may := cols >= 1 && cols <= mostCols && rows >= 1 && rows <= mostRows
			s, e := project.Blank(cols, rows)
			if may && (e != 0 || s.Cols != cols || s.Rows != rows) || !may && (e != 1 || !zero(s)) {
				t.Errorf("of %d and %d: %d, %s", cols, rows, e, drawn(s))
			}
		}
	}
}

// P15.2: of a screen that may be the answer may be, as great and with the same cursor.
func TestRight(t *testing.T) {
	for _, s := range some(t, 60) {
		for _, f := range features() {
			got := project.Screen(s, f)
			if !emul.Right(got) {
				t.Fatalf("%s by %d: %s, which may not be", drawn(s), f, drawn(got))
			}
			if got.Cols != s.Cols || got.Rows != s.Rows || got.X != s.X || got.Y != s.Y || got.Hidden != s.Hidden {
				t.Fatalf("%s by %d: %s", drawn(s), f, drawn(got))
			}
		}
	}
}

// P15.2: with all features it is the screen itself.
func TestAllFeatures(t *testing.T) {
	for _, s := range some(t, 400) {
		for _, f := range []uint32{fAll, fAll + 64, fAll + 1<<31, math.MaxUint32} {
			if got := project.Screen(s, f); !same(got, s) {
				t.Fatalf("%s by %d: %s", drawn(s), f, drawn(got))
			}
		}
	}
}

// P15.2: what has nothing that needs a feature is itself by all features, and so is a blank screen.
func TestPlainScreens(t *testing.T) {
	plain := screen(5, 2, "ab c?defg ")
	plain.Cells[1].Pen, plain.Cells[6].Pen = api.Pen{Fg: 16, Bg: 1, Attrs: 255}, api.Pen{Fg: 9, Bg: 8, Attrs: 1}
	plain.X, plain.Y, plain.Hidden = 4, 1, true
	blank, _ := project.Blank(mostCols, mostRows)
	for _, f := range features() {
		for _, s := range []api.Screen{plain, blank} {
			if got := project.Screen(s, f); !same(got, s) {
				t.Fatalf("%s by %d: %s", drawn(s), f, drawn(got))
			}
		}
	}
}

// P15.3: once is enough; and for fewer features with the same ones of colours what was answered is as good as the screen.
func TestOnceIsEnough(t *testing.T) {
	for _, s := range some(t, 25) {
		for f := range uint32(fAll + 1) {
			once := project.Screen(s, f)
			if twice := project.Screen(once, f); !same(twice, once) {
				t.Fatalf("%s by %d: %s, and then %s", drawn(s), f, drawn(once), drawn(twice))
			}
			for fewer := range f {
				if fewer&^f != 0 || fewer%4 != f%4 {
					continue
				}
				if got, want := project.Screen(once, fewer), project.Screen(s, fewer); !same(got, want) {
					t.Fatalf("%s by %d and %d: %s, and not %s", drawn(s), f, fewer, drawn(got), drawn(want))
				}
			}
		}
	}
}

// P15.3: the same with bits that no feature has, which may be there and gone.
func TestOnceWithStrangeBits(t *testing.T) {
	roll := rolls(153)
	for _, s := range some(t, 60) {
		for range 20 {
			f := uint32(roll(64)) + uint32(roll(1<<26))<<6
			fewer := f&3 + f&(uint32(roll(64))+uint32(roll(1<<26))<<6)&^3
			once := project.Screen(s, f)
			if !same(project.Screen(once, f), once) || !same(project.Screen(once, fewer), project.Screen(s, fewer)) {
				t.Fatalf("%s by %d and %d: %s", drawn(s), f, fewer, drawn(once))
			}
		}
	}
}
