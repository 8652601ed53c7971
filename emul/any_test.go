package emul_test

import (
	"strings"
	"testing"

	"spyglass/api"
)

// anyRune is a letter of any Width, some of them more often than others.
func anyRune(roll func(int) int) rune {
	l := []rune{'a', 'b', 'c', 'Z', ' ', '~', 'é', '中', '字', 0x1F600, 0xFFFD, 0x301, 0x7F, 0, 27, 0xD800, -1, 0x110000, 0x80}
	if roll(3) > 0 {
		return rune('a' + roll(26))
	}
	return l[roll(len(l))]
}

// anyNumber is a number of a sequence, of those at which something changes more often than others.
func anyNumber(roll func(int) int) int {
	l := []int{0, 1, 2, 3, 4, 5, 6, 7, 8, 9, 25, 38, 47, 48, 255, 256, 1000, 1002, 1003, 1047, 1049, 9999}
	switch roll(4) {
	case 0:
		return l[roll(len(l))]
	case 1:
		return roll(110)
	}
	return roll(10)
}

// anyNumbers are some of them.
func anyNumbers(roll func(int) int, most int) []int {
	var l []int
	for range roll(most + 1) {
		l = append(l, anyNumber(roll))
	}
	return l
}

// anyModes are numbers of modes.
func anyModes(roll func(int) int) []int {
	modes := []int{6, 7, 25, 47, 1000, 1002, 1003, 1047, 1049, 4, 1, 0}
	l := []int{modes[roll(len(modes))]}
	for roll(3) == 0 {
		l = append(l, modes[roll(len(modes))])
	}
	return l
}

// anyLook are numbers of m.
func anyLook(roll func(int) int) []int {
	var l []int
	for range roll(4) {
		switch roll(6) {
		case 0:
			l = append(l, 38+10*roll(2), 5, roll(258))
		case 1:
			l = append(l, 38+10*roll(2), 2, roll(257), roll(257), roll(256))
		case 2:
			l = append(l, 38+10*roll(2))
		case 3:
			l = append(l, 40+roll(10))
		default:
			l = append(l, roll(110))
		}
	}
	return l[:min(len(l), mostNumbers)]
}

// anyText is one of a command.
func anyText(roll func(int) int) []byte {
	switch roll(8) {
	case 0:
		return []byte("0;" + strings.Repeat("a中\xe2é\x01", roll(14)))
	case 1:
		return []byte("8;;")
	case 2:
		return []byte([]string{"8;", "8", "2", "1;x", "8;x; ", "08;;x", ";;x", ""}[roll(8)])
	}
	return []byte("8;id=1;x" + string(rune('A'+roll(40))))
}

// anyAct is an act, mostly one that does something.
func anyAct(roll func(int) int) api.Act {
	switch roll(16) {
	case 0, 1, 2, 3, 4:
		return api.Act{Kind: 1, Rune: anyRune(roll)}
	case 5, 6:
		return api.Act{Kind: 2, Final: []byte{8, 9, 10, 11, 12, 13, byte(roll(256))}[roll(7)]}
	case 7:
		return api.Act{Kind: 3, Mark: []byte{0, 0, 0, '#'}[roll(4)], Final: "78DEMHDEMcZ"[roll(11)]}
	case 8:
		return api.Act{Kind: 4, Mark: '?', Final: "hhlx"[roll(4)], Params: anyModes(roll)}
	case 9:
		return api.Act{Kind: 4, Final: 'm', Params: anyLook(roll)}
	case 10:
		return api.Act{Kind: 5, Text: anyText(roll)}
	case 11:
		return oddAct(roll)
	}
	finals := "@PXABeCaDEFG`dHfIZJKLMSTbghlmrsurHJKLMST@PX"
	return api.Act{Kind: 4, Final: finals[roll(len(finals))], Params: anyNumbers(roll, 3)}
}

// oddAct is an act that seldom does anything, with fields that its kind doesn't name.
func oddAct(roll func(int) int) api.Act {
	a := api.Act{Kind: roll(8) - 1, Rune: anyRune(roll), Final: byte(roll(128)), Params: anyNumbers(roll, 5), Text: anyText(roll)}
	switch roll(6) {
	case 0:
		a.Params = make([]int, 14+roll(5))
	case 1:
		a.Params = append(a.Params, []int{-1, 9999, 10000, -1 << 63, 1<<63 - 1}[roll(5)])
	case 2:
		a.Text = append(a.Text, make([]byte, 240+roll(20))...)
	case 3:
		a.Mark = "?!>#"[roll(4)]
		a.Final = "hlpm"[roll(4)]
	}
	return a
}

// anyBytes are bytes that mean something, most of them.
func anyBytes(roll func(int) int, n int) string {
	const meant = "\x07\b\t\n\r\x18\x1b\x1b[[[]8;;?!0123456789;;:ABCDHJKLMPSTXabcdefhlmrsu中é\x82\xff~"
	var b strings.Builder
	for range n {
		switch roll(12) {
		case 0:
			b.WriteString([]string{"^[2;3r", "^[?6h", "^[4h", "^[?7l", "^]0;t中\x07", "^]8;;a\x07", "^]8;;\x07", "^[41m", "^7", "^8", "^[?1049h", "^[?47l", "^H", "^c"}[roll(14)])
		case 1:
			b.WriteByte(byte(roll(256)))
		default:
			b.WriteByte(meant[roll(len(meant))])
		}
	}
	return b.String()
}

// anySize is the size of a terminal, mostly a small one.
func anySize(roll func(int) int) (cols, rows int) {
	switch n := roll(60); {
	case n == 0:
		return mostCols, mostRows
	case n == 1:
		return 1 + roll(mostCols), 1 + roll(mostRows)
	case n < 10:
		return 1 + roll(2), 1 + roll(3)
	}
	return 1 + roll(12), 1 + roll(6)
}

// rounds are how many are made: fewer in short tests.
func rounds(n int) int {
	if testing.Short() {
		return n / 10
	}
	return n
}

// P12.1, P12.2: any rows of acts, with other sizes between, against the model.
func TestAnyActs(t *testing.T) {
	t.Parallel()
	roll := rolls(1)
	for range rounds(3000) {
		b := newBoth(t, 1, 1)
		b.resize(anySize(roll))
		for range 20 + roll(100) {
			if roll(60) == 0 {
				b.resize(anySize(roll))
			}
			b.do(anyAct(roll))
		}
	}
}

// P12.1, P12.2: any rows of bytes against the model.
func TestAnyBytes(t *testing.T) {
	t.Parallel()
	roll := rolls(2)
	for range rounds(3000) {
		b := newBoth(t, 1, 1)
		b.resize(anySize(roll))
		for range 5 + roll(40) {
			b.feed(anyBytes(roll, 1+roll(8)))
		}
	}
}
