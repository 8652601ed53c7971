package emul_test

import (
	"fmt"
	"strconv"
	"strings"
	"testing"

	"spyglass/api"
)

// penOf is the pen of a letter that is printed behind a text.
func penOf(t *testing.T, text string) api.Pen {
	t.Helper()
	term := fed(t, 2, 1, text+"x")
	s := term.Screen()
	right(t, s, text)
	if s.Cells[0].Rune != 'x' {
		t.Fatalf("%q: shows %s", text, drawn(s))
	}
	return s.Cells[0].Pen
}

// tryPen has the pen be as is wanted behind a text.
func tryPen(t *testing.T, text string, want api.Pen) {
	t.Helper()
	if got := penOf(t, text); got != want {
		t.Errorf("%q: the pen is %+v, want %+v", text, got, want)
	}
}

// P12.1: each number of m alone, of the zero pen and of one that has everything.
func TestEachLook(t *testing.T) {
	const all, ahead = 255, "^[1;2;3;4;5;7;8;9;35;46m"
	tryPen(t, "", api.Pen{})
	tryPen(t, ahead, api.Pen{Fg: 6, Bg: 7, Attrs: all})
	set := map[int]uint8{1: 1, 2: 2, 3: 4, 4: 8, 5: 16, 7: 32, 8: 64, 9: 128}
	unset := map[int]uint8{22: 3, 23: 4, 24: 8, 25: 16, 27: 32, 28: 64, 29: 128}
	for n := range 300 {
		zero, full := api.Pen{}, api.Pen{Fg: 6, Bg: 7, Attrs: all}
		zero.Attrs = set[n]
		full.Attrs &^= unset[n]
		c := api.Color(0)
		switch {
		case n == 0:
			full = api.Pen{}
		case n >= 30 && n < 38, n >= 40 && n < 48:
			c = api.Color(n%10 + 1)
		case n >= 90 && n < 98, n >= 100 && n < 108:
			c = api.Color(n%10 + 9)
		}
		switch {
		case n == 39:
			full.Fg = 0
		case n == 49:
			full.Bg = 0
		case c != 0 && (n < 40 || n >= 90 && n < 100):
			zero.Fg, full.Fg = c, c
		case c != 0:
			zero.Bg, full.Bg = c, c
		}
		text := fmt.Sprintf("^[%dm", n)
		tryPen(t, text, zero)
		tryPen(t, ahead+text, full)
	}
	for _, n := range []int{999, 1000, 1001, 2000, 8191, 8192, 9998, 9999} {
		tryPen(t, ahead+fmt.Sprintf("^[%dm", n), api.Pen{Fg: 6, Bg: 7, Attrs: all})
	}
}

// P12.1: m without numbers, with several, and with marks.
func TestLooks(t *testing.T) {
	for _, each := range []struct {
		text string
		want api.Pen
	}{
		{"^[1m^[m", api.Pen{}},
		{"^[1m^[0m", api.Pen{}},
		{"^[1m^[;m", api.Pen{}},
		{"^[1m^[;3m", api.Pen{Attrs: 4}},
		{"^[1;m", api.Pen{}},
		{"^[1m^[3m", api.Pen{Attrs: 5}},
		{"^[1;3m", api.Pen{Attrs: 5}},
		{"^[3;0;1m", api.Pen{Attrs: 1}},
		{"^[1;22m", api.Pen{}},
		{"^[1;2;3;22m", api.Pen{Attrs: 4}},
		{"^[22;1m", api.Pen{Attrs: 1}},
		{"^[1;6;3m", api.Pen{Attrs: 5}},
		{"^[1;21;26;3m", api.Pen{Attrs: 5}},
		{"^[31;41m", api.Pen{Fg: 2, Bg: 2}},
		{"^[31;32;44;45m", api.Pen{Fg: 3, Bg: 6}},
		{"^[31;92m", api.Pen{Fg: 11}},
		{"^[91;39m", api.Pen{}},
		{"^[101;49m", api.Pen{}},
		{"^[31;41;39m", api.Pen{Bg: 2}},
		{"^[31;41;49m", api.Pen{Fg: 2}},
		{"^[4:3m", api.Pen{Attrs: 12}},
		{"^[1;2;3;4;5;7;8;9;30;47;0;1;2;3;4;5m", api.Pen{Attrs: 31}},
		{"^[0;0;0;0;0;0;0;0;0;0;0;0;0;0;0;1;3m", api.Pen{Attrs: 1}},
		{"^[1m^[?0m^[>0m^[!m^[ m^[?m", api.Pen{Attrs: 1}},
		{"^[?1m^[>4;2m^[#m", api.Pen{}},
	} {
		tryPen(t, each.text, each.want)
	}
}

// P12.1: the colours of 38 and 48, of 256 and of three parts, with numbers missing, too great, and others behind.
func TestOwnColors(t *testing.T) {
	for _, each := range []struct {
		numbers string
		want    api.Color
		bold    bool
	}{
		{"5;0", 1, true}, {"5;9", 10, true}, {"5;15", 16, true}, {"5;16", 17, true}, {"5;254", 255, true}, {"5;255", 256, true},
		{"5;256", 0, false}, {"5;257", 0, false}, {"5;9999", 0, false},
		{"2;0;0;0", rgb, true}, {"2;1;2;3", rgb + 65536 + 512 + 3, true}, {"2;255;0;0", rgb + 0xFF0000, true}, {"2;0;255;0", rgb + 0xFF00, true}, {"2;0;0;255", rgb + 0xFF, true}, {"2;255;255;255", rgb + 0xFFFFFF, true},
		{"2;256;0;0", 0, false}, {"2;0;256;0", 0, false}, {"2;0;0;256", 0, false}, {"2;9999;9999;9999", 0, false},
		{"0", 0, false}, {"1", 0, false}, {"3", 0, false}, {"4", 0, false}, {"6;1", 0, false}, {"38", 0, false}, {"9999", 0, false}, {"55;1", 0, false}, {"3;1;2;3", 0, false},
	} {
		for _, way := range []string{"38", "48"} {
			want := api.Pen{Fg: each.want}
			if way == "48" {
				want = api.Pen{Bg: each.want}
			}
			if each.bold {
				want.Attrs = 1
			}
			tryPen(t, "^["+way+";"+each.numbers+";1m", want)
			// What stood ahead in the same act holds, and so does the next act.
			want.Attrs |= 4
			tryPen(t, "^[3;"+way+";"+each.numbers+";1m", want)
			want.Attrs |= 128
			tryPen(t, "^[3;"+way+";"+each.numbers+";1m^[9m", want)
		}
	}
	for _, missing := range []string{"", ";5", ";2", ";2;1", ";2;1;2"} {
		for _, way := range []string{"38", "48"} {
			tryPen(t, "^[31;44m^["+way+missing+"m", api.Pen{Fg: 2, Bg: 5})
			tryPen(t, "^[31;44m^[1;"+way+missing+"m", api.Pen{Fg: 2, Bg: 5, Attrs: 1})
		}
	}
	tryPen(t, "^[38;5;m", api.Pen{Fg: 1})
	tryPen(t, "^[38;5;;1m", api.Pen{Fg: 1, Attrs: 1})
	tryPen(t, "^[38;2;;;m", api.Pen{Fg: rgb})
	tryPen(t, "^[38;5;1;48;5;2m", api.Pen{Fg: 2, Bg: 3})
	tryPen(t, "^[38;2;1;1;1;0m", api.Pen{})
	tryPen(t, "^[38;5;48;48;5;38m", api.Pen{Fg: 49, Bg: 39})
	tryPen(t, "^[38;2;38;48;5;48;2;1;2;3m", api.Pen{Fg: rgb + 38<<16 + 48<<8 + 5, Bg: rgb + 1<<16 + 2<<8 + 3})
	// The numbers behind the sixteenth are gone.
	tryPen(t, "^["+strings.Repeat("0;", 13)+"38;5;7m", api.Pen{Fg: 8})
	tryPen(t, "^["+strings.Repeat("0;", 14)+"38;5;7m", api.Pen{})
	tryPen(t, "^["+strings.Repeat("0;", 12)+"48;2;1;1m", api.Pen{})
	tryPen(t, "^["+strings.Repeat("0;", 11)+"48;2;1;1;1m", api.Pen{Bg: rgb + 0x10101})
	tryPen(t, "^["+strings.Repeat("0;", 12)+"48;2;1;1;1m", api.Pen{})
}

// P12.1: any rows of numbers of m against the model.
func TestAnyLooks(t *testing.T) {
	t.Parallel()
	roll := rolls(3)
	for range rounds(4000) {
		b := newBoth(t, 3, 1)
		for range 1 + roll(6) {
			var l []string
			for range roll(17) {
				l = append(l, strconv.Itoa([]int{roll(110), 38, 48, 5, 2, roll(258), 255, 256, 0}[roll(9)]))
			}
			b.feed("^[" + strings.Join(l, ";") + "mx^[X\r")
		}
	}
}

// P12.1: the link stays in the pen that m makes zero, and goes where ! p does.
func TestPenLink(t *testing.T) {
	try(t, 4, 1, "^]8;;x\x07^[1;41ma^[mb^[0mc", "abc. 3,0 links [x]")
	tryPen(t, "^]8;;x\x07^[1;41m^[m", api.Pen{Link: 1})
	tryPen(t, "^]8;;x\x07^[1;41m^[0;3m", api.Pen{Link: 1, Attrs: 4})
	tryPen(t, "^]8;;x\x07^[1;41m^[!p", api.Pen{})
	tryPen(t, "^]8;;x\x07^[1;41m^c", api.Pen{})
	// Blanks have no link, and nothing of the pen but its Bg.
	try(t, 4, 2, "^]8;;x\x07^[1;31;41m^[J", "2222/2222 0,0")
	try(t, 4, 1, "^]8;;x\x07^[1;31;41m^[2@", "22.. 0,0")
	try(t, 4, 1, "^]8;;x\x07^[1;31;41m^[2P", "..22 0,0")
}
