package emul_test

import (
	"fmt"
	"math"
	"strings"
	"testing"

	"spyglass/api"
)

// settings are texts that bring terminals of nine columns and five rows to where acts can be told from one another.
func settings() map[string]string {
	const rows = "abcdefghi\r\n中字国lmn\r\nopqrstuvw\r\nxyz"
	return map[string]string{
		"new":     "",
		"middle":  rows + "^[5G^H^[2;3H^[43m^7^[44m" + link("x") + "^[2;4r^[3;4H",
		"full":    rows + "^[42m^[1;9Hi",
		"above":   rows + "^[42m^[3;4r^[2;4H",
		"below":   rows + "^[3;4H^7^[42m^[1;3r^[5;9H",
		"changed": rows + "^]0;t\x07^[?1049h" + rows + "^[2;4r^[?6;1000h^[?7;25l^[4h^[41;1m" + link("x") + "k" + link("y") + "^[2;5H",
	}
}

// eachAct does an act in each setting, and probes the terminal behind it, against the model.
func eachAct(t *testing.T, setting string, a api.Act) {
	t.Helper()
	b := newBoth(t, 9, 5)
	b.feed(settings()[setting])
	b.do(a)
	b.feedEach(strings.Split(probes()[0], "|"))
	b.feedEach(strings.Split(probes()[1], "|"))
	b = newBoth(t, 9, 5)
	b.feed(settings()[setting])
	b.do(a)
	b.feedEach(strings.Split(originProbe, "|"))
}

// eachSetting runs a test in each setting, side by side.
func eachSetting(t *testing.T, run func(t *testing.T, setting string)) {
	for setting := range settings() {
		t.Run(setting, func(t *testing.T) {
			t.Parallel()
			run(t, setting)
		})
	}
}

// P12.1: each control byte and each final byte of an escape sequence, with each mark that may be and others.
func TestEachEsc(t *testing.T) {
	eachSetting(t, func(t *testing.T, setting string) {
		for final := range 256 {
			eachAct(t, setting, api.Act{Kind: 2, Final: byte(final)})
			for _, mark := range []byte{0, '#', '?'} {
				eachAct(t, setting, api.Act{Kind: 3, Mark: mark, Final: byte(final)})
			}
		}
	})
}

// P12.1: each final byte of a control sequence, with each mark, and numbers at all bounds.
func TestEachCsi(t *testing.T) {
	const named = "@PXABeCaDEFG`dHfIZJKLMSTbghlmrsu"
	lists := [][]int{nil, {0}, {1}, {2}, {3}, {4}, {5}, {6}, {8}, {9}, {10}, {45}, {46}, {9998}, {9999}, {0, 0}, {0, 3}, {2, 3}, {3, 2}, {2, 2}, {5, 9}, {6, 10}, {1, 5}, {9999, 9999}, {4, 5, 1}}
	eachSetting(t, func(t *testing.T, setting string) {
		for final := range 256 {
			some, marks := [][]int{nil, {4}}, []byte("?!> ")
			if strings.Contains(named, string(rune(final))) && !testing.Short() {
				some, marks = lists, append(marks, '<', '=', '"', '$', 1, 255)
			}
			for _, numbers := range some {
				eachAct(t, setting, api.Act{Kind: 4, Params: numbers, Final: byte(final)})
			}
			for _, mark := range marks {
				eachAct(t, setting, api.Act{Kind: 4, Mark: mark, Params: []int{2, 4}, Final: byte(final)})
			}
		}
	})
}

// P12.1: each mode in each setting.
func TestModesInSettings(t *testing.T) {
	eachSetting(t, func(t *testing.T, setting string) {
		for _, n := range []int{0, 1, 4, 5, 6, 7, 8, 24, 25, 26, 46, 47, 48, 999, 1000, 1001, 1002, 1003, 1004, 1046, 1047, 1048, 1049, 1050, 2004, 9999} {
			for _, mark := range []byte{0, '?', '!', '>'} {
				for _, final := range []byte("hl") {
					eachAct(t, setting, api.Act{Kind: 4, Mark: mark, Params: []int{n}, Final: final})
					eachAct(t, setting, api.Act{Kind: 4, Mark: mark, Params: []int{n, 6, n, 7}, Final: final})
				}
			}
		}
	})
}

// P12.1: letters of each Width, and texts, in each setting.
func TestLettersInSettings(t *testing.T) {
	eachSetting(t, func(t *testing.T, setting string) {
		for _, r := range []rune{-1, 0, 8, 27, 32, 'a', 126, 127, 0x9F, 0xA0, 0x301, 0x115F, 0x1160, 0x4E00, 0xD800, 0xFFFD, 0x1F600, 0x10FFFF, 0x110000} {
			eachAct(t, setting, api.Act{Kind: 1, Rune: r})
		}
		for _, text := range []string{"", "0", "0;", "0;a", "2;b", "1;c", "8;", "8;;", "8;;x", "8;;z", "8;a;z", "8;;a b", "9;a", ";"} {
			eachAct(t, setting, api.Act{Kind: 5, Text: []byte(text)})
		}
	})
}

// doing are acts that do something, one of each sort.
func doing() []api.Act {
	return []api.Act{
		{Kind: 1, Rune: 'q'}, {Kind: 1, Rune: 0x4E00},
		{Kind: 2, Final: 8}, {Kind: 2, Final: 9}, {Kind: 2, Final: 10}, {Kind: 2, Final: 13},
		{Kind: 3, Final: '8'}, {Kind: 3, Final: 'D'}, {Kind: 3, Final: 'E'}, {Kind: 3, Final: 'M'}, {Kind: 3, Final: 'c'},
		{Kind: 4, Final: 'D'}, {Kind: 4, Final: 'A'}, {Kind: 4, Final: 'J'}, {Kind: 4, Final: 'b'}, {Kind: 4, Final: 'S'}, {Kind: 4, Final: 'X'},
		{Kind: 5, Text: []byte("0;b")},
	}
}

// P12.1: acts that no bytes bring: of kinds that are none, with too many numbers, numbers out of bounds, and texts that are too long; these do nothing, whatever kind they are of.
func TestActsThatDoNothing(t *testing.T) {
	const ahead = "abc\r\ndef^[2;2H^7^[1;3Hc"
	long := func(n int) []byte { return []byte("0;" + strings.Repeat("t", n-2)) }
	for _, a := range doing() {
		for _, change := range []func(a *api.Act){
			func(a *api.Act) { a.Kind = 0 },
			func(a *api.Act) { a.Kind = -1 },
			func(a *api.Act) { a.Kind = 6 },
			func(a *api.Act) { a.Kind += 256 },
			func(a *api.Act) { a.Kind += 1 << 32 },
			func(a *api.Act) { a.Kind = math.MinInt },
			func(a *api.Act) { a.Kind = math.MaxInt },
			func(a *api.Act) { a.Params = make([]int, 17) },
			func(a *api.Act) { a.Params = make([]int, 1000) },
			func(a *api.Act) { a.Params = []int{-1} },
			func(a *api.Act) { a.Params = []int{10000} },
			func(a *api.Act) { a.Params = []int{1, 2, -1} },
			func(a *api.Act) { a.Params = append(make([]int, 15), 10000) },
			func(a *api.Act) { a.Params = []int{math.MinInt} },
			func(a *api.Act) { a.Params = []int{1, math.MaxInt} },
			func(a *api.Act) { a.Text = long(257) },
			func(a *api.Act) { a.Text = long(5000) },
		} {
			a := a
			change(&a)
			term := fed(t, 3, 2, ahead)
			want := term.Screen()
			term.Do(a)
			if got := term.Screen(); !same(got, want) {
				t.Errorf("%+v: shows %s, and showed %s", a, drawn(got), drawn(want))
			}
			// The row is full still.
			term.Feed([]byte("z"))
			shows(t, term, fmt.Sprintf("%+v", a), "abc/zef 1,1")
		}
	}
}

// P12.1: numbers and texts that are just as many and as great as may be.
func TestActsAtTheBounds(t *testing.T) {
	for _, a := range doing() {
		for _, change := range []func(a *api.Act){
			func(a *api.Act) { a.Params = make([]int, 16) },
			func(a *api.Act) { a.Params = []int{9999} },
			func(a *api.Act) { a.Params = append(make([]int, 15), 9999) },
			func(a *api.Act) { a.Params = []int{} },
			func(a *api.Act) { a.Text = []byte("0;" + strings.Repeat("t", 254)) },
		} {
			change(&a)
			b := newBoth(t, 4, 3)
			b.feed("abcdefghij^[2;2H^7^[2;3H")
			before := b.term.Screen()
			b.do(a)
			// What J does hangs on its number.
			if a.Final != 'J' && same(b.term.Screen(), before) {
				t.Errorf("%+v does nothing", a)
			}
		}
	}
}

// P12.1: fields that a kind doesn't name play no part.
func TestOtherFields(t *testing.T) {
	const ahead = "abcdefgh\r\nijklm\r\nnop^[2;3H^[4G^H^7^[2;3H"
	names := map[int]string{1: "R", 2: "F", 3: "MF", 4: "MPF", 5: "T"}
	for _, a := range append(doing(), api.Act{Kind: 2, Final: 12}, api.Act{Kind: 3, Final: '7'}, api.Act{Kind: 3, Final: 'H'}, api.Act{Kind: 5, Text: []byte("8;;x")}) {
		for field, set := range map[string]func(a *api.Act){
			"R": func(a *api.Act) { a.Rune = 'b' },
			"M": func(a *api.Act) { a.Mark = '?' },
			"F": func(a *api.Act) { a.Final = 'c' },
			"P": func(a *api.Act) { a.Params = []int{2, 3, 0} },
			"T": func(a *api.Act) { a.Text = []byte("2;text") },
		} {
			if strings.Contains(names[a.Kind], field) {
				continue
			}
			more := a
			set(&more)
			term, want := fed(t, 9, 3, ahead), fed(t, 9, 3, ahead)
			term.Do(more)
			want.Do(a)
			for _, text := range []string{"", "q", "\tr", "^8s"} {
				term.Feed(bytesOf(text))
				want.Feed(bytesOf(text))
				if got, want := term.Screen(), want.Screen(); !same(got, want) {
					t.Errorf("%+v, %q: shows %s, want %s", more, text, drawn(got), drawn(want))
				}
			}
		}
	}
}
