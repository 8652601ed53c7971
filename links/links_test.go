package links_test

import (
	"math"
	"slices"
	"strconv"
	"strings"
	"sync"
	"testing"

	"spyglass/api"
	"spyglass/links"
)

const (
	// A text has at most so many bytes, and a table that grows at most so many places.
	mostBytes = 64
	mostLinks = 16
	// greatest is the greatest number that a cell can have.
	greatest = math.MaxUint16
)

// spelt tells for which text a letter of these tests stands: small ones for themselves, the dot for a free place, others for texts that may not be, great ones for long texts.
func spelt(letter byte) string {
	switch letter {
	case '.':
		return ""
	case '?':
		return "a b"
	case '!':
		return strings.Repeat("x", mostBytes+1)
	case '%':
		return "a\x7f"
	case 'L', 'M':
		return strings.Repeat("x", mostBytes-1) + string(letter)
	}
	return string(letter)
}

// list answers the texts for which letters stand.
func list(text string) []string {
	var l []string
	for i := range len(text) {
		l = append(l, spelt(text[i]))
	}
	return l
}

// letters answers the letters of texts.
func letters(l []string) string {
	var s strings.Builder
	for _, text := range l {
		i := strings.IndexFunc(".?!%LM", func(letter rune) bool { return spelt(byte(letter)) == text })
		switch {
		case i >= 0:
			s.WriteByte(".?!%LM"[i])
		case len(text) == 1:
			s.WriteString(text)
		default:
			s.WriteString("(" + strconv.Quote(text) + ")")
		}
	}
	return s.String()
}

// places answers so many letters that differ.
func places(n int) string { return "abcdefghijklmnopqrstuvwxyz"[:n] }

// cells answers cells with such numbers, no two of which are the same in all else; some of them may not be, as nothing is asked of all else.
func cells(numbers ...uint16) []api.Cell {
	var l []api.Cell
	for i, n := range numbers {
		p := api.Pen{Fg: api.Color(257 * i), Bg: math.MaxUint32 - api.Color(i), Attrs: uint8(255 - i), Link: n}
		l = append(l, api.Cell{Rune: rune(97 - 99*(i%2) + i), Wide: uint8(i % 5), Pen: p})
	}
	return l
}

// numbers are those of cells.
func numbers(l []api.Cell) []uint16 {
	var n []uint16
	for _, c := range l {
		n = append(n, c.Pen.Link)
	}
	return n
}

// told are numbers as a text.
func told(l []uint16) string {
	var s []string
	for _, n := range l {
		s = append(s, strconv.Itoa(int(n)))
	}
	return strings.Join(s, " ")
}

// rolls answers numbers that look like none in particular, the same ones each time.
func rolls(seed uint64) func(below int) int {
	return func(below int) int {
		seed = seed*6364136223846793005 + 1442695040888963407
		return int((seed >> 33) % uint64(below))
	}
}

// rows are all rows of up to most of some things.
func rows[T any](things []T, most int) [][]T {
	all := [][]T{nil}
	for from := 0; most > 0; most-- {
		end := len(all)
		for _, l := range all[from:end] {
			for _, thing := range things {
				all = append(all, append(slices.Clone(l), thing))
			}
		}
		from = end
	}
	return all
}

// tables are all of up to most places, made of free places, of texts that may be and of one that may not.
func tables(most int) [][]string { return rows(list(".ab?"), most) }

// The models: each takes the words of the chapter one by one.

// wantMay is what May has to answer.
func wantMay(uri string) bool {
	for _, b := range []byte(uri) {
		if b < 33 || b > 126 {
			return false
		}
	}
	return len(uri) >= 1 && len(uri) <= mostBytes
}

// wantIntern is what Intern has to answer.
func wantIntern(table []string, uri string) ([]string, uint16, api.Errno) {
	if !wantMay(uri) {
		return nil, 0, api.ErrForm
	}
	for i := range table {
		if table[i] == uri {
			return table, uint16(i + 1), api.OK
		}
	}
	for i := range table {
		if table[i] == "" {
			return slices.Concat(table[:i], []string{uri}, table[i+1:]), uint16(i + 1), api.OK
		}
	}
	if len(table) < mostLinks {
		return slices.Concat(table, []string{uri}), uint16(len(table) + 1), api.OK
	}
	return nil, 0, api.ErrFull
}

// wantSweep is what Sweep has to answer: place by place, and then without what is free behind.
func wantSweep(table []string, used []uint16) []string {
	var l []string
	for i, text := range table {
		if i >= greatest || !slices.Contains(used, uint16(i+1)) {
			text = ""
		}
		l = append(l, text)
	}
	for len(l) > 0 && l[len(l)-1] == "" {
		l = l[:len(l)-1]
	}
	return l
}

// leads is where a number leads to: a text that may be; nowhere, if there is none.
func leads(table []string, n uint16) string {
	for i, text := range table {
		if i+1 == int(n) && wantMay(text) {
			return text
		}
	}
	return ""
}

// wantCanon is what Canon has to answer: first all the links, then the numbers.
func wantCanon(l []api.Cell, table []string) ([]api.Cell, []string) {
	uris := []string{""}
	for _, c := range l {
		if uri := leads(table, c.Pen.Link); !slices.Contains(uris, uri) {
			uris = append(uris, uri)
		}
	}
	var want []api.Cell
	for _, c := range l {
		c.Pen.Link = uint16(slices.Index(uris, leads(table, c.Pen.Link)))
		want = append(want, c)
	}
	return want, uris[1:]
}

// wantRight is what Right has to answer.
func wantRight(l []api.Cell, uris []string) bool {
	first := map[int]int{}
	for i, c := range slices.Backward(l) {
		first[int(c.Pen.Link)] = i
	}
	delete(first, 0)
	for i, uri := range uris {
		at, came := first[i+1]
		ahead, ordered := first[i]
		if !wantMay(uri) || slices.Index(uris, uri) != i || !came || ordered && ahead >= at {
			return false
		}
	}
	return len(uris) <= mostLinks && len(first) == len(uris)
}

// Each of these holds an answer against its model.

func tryIntern(t *testing.T, table []string, uri string) {
	t.Helper()
	got, n, e := links.Intern(table, uri)
	want, number, errno := wantIntern(table, uri)
	if !slices.Equal(got, want) || n != number || e != errno {
		t.Fatal("Intern of", letters(list(uri)), "into", letters(table), "answered", letters(got), n, int(e), "and not", letters(want), number, int(errno))
	}
}

func trySweep(t *testing.T, table []string, used []uint16) {
	t.Helper()
	if got, want := links.Sweep(table, used), wantSweep(table, used); !slices.Equal(got, want) {
		t.Fatal("Sweep of", letters(table), "with", told(used), "answered", letters(got), "and not", letters(want))
	}
}

func tryCanon(t *testing.T, l []api.Cell, table []string) {
	t.Helper()
	got, uris := links.Canon(l, table)
	want, all := wantCanon(l, table)
	if !slices.Equal(got, want) || !slices.Equal(uris, all) {
		t.Fatal("Canon of", told(numbers(l)), "and", letters(table), "answered", told(numbers(got)), "and", letters(uris), "and not", told(numbers(want)), "and", letters(all))
	}
}

func tryRight(t *testing.T, l []api.Cell, uris []string) {
	t.Helper()
	if got, want := links.Right(l, uris), wantRight(l, uris); got != want {
		t.Fatal("Right of", told(numbers(l)), "and", letters(uris), "answered", got)
	}
}

// P10.1: the examples

func TestExamples(t *testing.T) {
	var table []string
	for i, uri := range []string{"a", "b", "a"} {
		var n uint16
		var e api.Errno
		table, n, e = links.Intern(table, uri)
		if want := []uint16{1, 2, 1}[i]; n != want || e != api.OK {
			t.Error("Intern of", uri, "answered", n, int(e))
		}
	}
	if !slices.Equal(table, []string{"a", "b"}) {
		t.Error("the table is", letters(table))
	}
	table = links.Sweep(table, []uint16{2})
	if !slices.Equal(table, []string{"", "b"}) {
		t.Error("Sweep answered", letters(table))
	}
	table, n, e := links.Intern(table, "c")
	if !slices.Equal(table, []string{"c", "b"}) || n != 1 || e != api.OK {
		t.Error("Intern of c answered", letters(table), n, int(e))
	}
	got, uris := links.Canon(cells(2, 0, 1, 2), []string{"c", "b"})
	if !slices.Equal(got, cells(1, 0, 2, 1)) || !slices.Equal(uris, []string{"b", "c"}) {
		t.Error("Canon answered", told(numbers(got)), "and", letters(uris))
	}
}

// P10.1: May

func TestMayOfLengths(t *testing.T) {
	for _, n := range []int{0, 1, 2, 63, 64, 65, 66, 127, 128, 129, 256, 320, 65536, 65537, 1 << 20} {
		for _, b := range []string{"!", "a", "~"} {
			if got, want := links.May(strings.Repeat(b, n)), n >= 1 && n <= mostBytes; got != want {
				t.Error(n, "times", b, "may be:", got)
			}
		}
	}
}

func TestMayOfBytes(t *testing.T) {
	for b := range 256 {
		want := b >= 33 && b <= 126
		for _, n := range []int{1, 2, 3, 4, 63, 64} {
			for i := range n {
				text := []byte(strings.Repeat("a", n))
				text[i] = byte(b)
				if got := links.May(string(text)); got != want {
					t.Fatal("the byte", b, "may be at", i, "of", n, ":", got)
				}
			}
		}
	}
}

func TestMayOfTexts(t *testing.T) {
	for text, want := range map[string]bool{
		"https://example.org/a?b=c#d": true, "!": true, "~": true, "\"%\\": true, "ftp://x/~y": true,
		"": false, " ": false, "a b": false, " a": false, "a ": false, "\t": false, "a\n": false, "\x00": false, "\x7f": false, "\x80": false, "\xff": false,
		"é": false, "a\u4e00": false, "\U0001F600": false, "a\xc3": false,
	} {
		if got := links.May(text); got != want {
			t.Error(strconv.Quote(text), "may be:", got)
		}
	}
}

// P10.1: Intern

func TestIntern(t *testing.T) {
	for _, x := range []struct {
		table  string
		uri    byte
		want   string
		number uint16
		e      api.Errno
	}{
		{"", 'a', "a", 1, api.OK}, {"", 'L', "L", 1, api.OK}, {"", '.', "", 0, api.ErrForm}, {"", '?', "", 0, api.ErrForm}, {"", '!', "", 0, api.ErrForm}, {"", '%', "", 0, api.ErrForm},
		{"a", 'a', "a", 1, api.OK}, {"a", 'b', "ab", 2, api.OK}, {"abc", 'b', "abc", 2, api.OK}, {"abc", 'c', "abc", 3, api.OK}, {"abc", 'd', "abcd", 4, api.OK}, {"abc", '?', "", 0, api.ErrForm},
		{"aba", 'a', "aba", 1, api.OK}, {"baa", 'a', "baa", 2, api.OK}, {"bab", 'b', "bab", 1, api.OK}, {"LM", 'M', "LM", 2, api.OK}, {"L", 'M', "LM", 2, api.OK},
		{".", 'a', "a", 1, api.OK}, {".bc", 'a', "abc", 1, api.OK}, {"b.c", 'a', "bac", 2, api.OK}, {"bc.", 'a', "bca", 3, api.OK}, {"...", 'a', "a..", 1, api.OK}, {"b.c.", 'a', "bac.", 2, api.OK}, {"b..", 'a', "ba.", 2, api.OK},
		{".a", 'a', ".a", 2, api.OK}, {"..a.a", 'a', "..a.a", 3, api.OK}, {"a.", 'a', "a.", 1, api.OK}, {".b.a", 'a', ".b.a", 4, api.OK}, {"...", '.', "", 0, api.ErrForm}, {".?", '?', "", 0, api.ErrForm},
		{"?", 'a', "?a", 2, api.OK}, {"?!%", 'a', "?!%a", 4, api.OK}, {"?", '?', "", 0, api.ErrForm}, {"?a", 'a', "?a", 2, api.OK}, {"?.!", 'a', "?a!", 2, api.OK}, {"!?", '!', "", 0, api.ErrForm},
	} {
		got, n, e := links.Intern(list(x.table), spelt(x.uri))
		if letters(got) != x.want || n != x.number || e != x.e {
			t.Error("Intern of", string(x.uri), "into", x.table, "answered", letters(got), n, int(e), "and not", x.want, x.number, int(x.e))
		}
	}
}

func TestInternIntoGreatTables(t *testing.T) {
	p15, p16, p17 := places(15), places(16), places(17)
	for _, x := range []struct {
		table  string
		uri    byte
		want   string
		number uint16
		e      api.Errno
	}{
		{p15, 'z', p15 + "z", 16, api.OK}, {p16, 'z', "", 0, api.ErrFull}, {p17, 'z', "", 0, api.ErrFull},
		{p15, 'a', p15, 1, api.OK}, {p16, 'a', p16, 1, api.OK}, {p17, 'a', p17, 1, api.OK}, {p15, 'o', p15, 15, api.OK}, {p16, 'p', p16, 16, api.OK}, {p17, 'q', p17, 17, api.OK},
		{p15, '?', "", 0, api.ErrForm}, {p16, '?', "", 0, api.ErrForm}, {p17, '!', "", 0, api.ErrForm}, {p16, '.', "", 0, api.ErrForm}, {p17, '%', "", 0, api.ErrForm},
		{places(14) + ".", 'z', places(14) + "z", 15, api.OK}, {p15 + ".", 'z', p15 + "z", 16, api.OK}, {p16 + ".", 'z', p16 + "z", 17, api.OK},
		{"." + p15, 'z', "z" + p15, 1, api.OK}, {"." + p16, 'z', "z" + p16, 1, api.OK}, {"a.b" + places(14)[2:], 'z', "azb" + places(14)[2:], 2, api.OK},
		{"abc." + p17, 'z', "abcz" + p17, 4, api.OK}, {p17 + "..", 'z', p17 + "z.", 18, api.OK}, {"." + p16 + ".", 'a', "." + p16 + ".", 2, api.OK},
		{strings.Repeat("?", 15), 'z', strings.Repeat("?", 15) + "z", 16, api.OK}, {strings.Repeat("?", 16), 'z', "", 0, api.ErrFull}, {strings.Repeat("!", 17), 'z', "", 0, api.ErrFull}, {strings.Repeat("%", 16) + ".", 'z', strings.Repeat("%", 16) + "z", 17, api.OK},
		{strings.Repeat("a", 15), 'z', strings.Repeat("a", 15) + "z", 16, api.OK}, {strings.Repeat("a", 16), 'z', "", 0, api.ErrFull}, {strings.Repeat("a", 16), 'a', strings.Repeat("a", 16), 1, api.OK},
	} {
		got, n, e := links.Intern(list(x.table), spelt(x.uri))
		if letters(got) != x.want || n != x.number || e != x.e {
			t.Error("Intern of", string(x.uri), "into", x.table, "answered", letters(got), n, int(e), "and not", x.want, x.number, int(x.e))
		}
	}
}

func TestInternIntoAllSmallTables(t *testing.T) {
	for _, table := range tables(5) {
		for _, uri := range list("abcL.?!%") {
			tryIntern(t, table, uri)
		}
	}
}

func TestInternAgainAndAgain(t *testing.T) {
	var table []string
	for i := range 20 {
		for range 2 {
			tryIntern(t, table, places(20)[i:i+1])
			got, n, e := links.Intern(table, places(20)[i:i+1])
			if i < mostLinks {
				table = got
			}
			if want := i < mostLinks; want != (e == api.OK) || want && int(n) != i+1 || !want && (n != 0 || e != api.ErrFull) {
				t.Fatal("the text", i, "has the number", n, "and the error", int(e))
			}
		}
	}
	if letters(table) != places(16) {
		t.Error("the table is", letters(table))
	}
}

// A number that is answered names the text, and no place ahead of it does, however many there are.
func TestInternNames(t *testing.T) {
	for _, n := range []int{greatest - 1, greatest, greatest + 1, greatest + 2, 2*greatest + 3} {
		for _, text := range []string{"b", "a", ""} {
			for _, at := range []int{0, 17, greatest - 2, greatest - 1, greatest, greatest + 1, n - 1} {
				table := slices.Repeat([]string{"a"}, n)
				if at < n {
					table[at] = text
				}
				got, number, e := links.Intern(table, "b")
				if e != api.OK && (got != nil || number != 0 || e != api.ErrFull) {
					t.Fatal("Intern answered", number, int(e), "and", len(got), "places")
				}
				if could := text != "a" && at < min(n, greatest); could != (e == api.OK) {
					t.Fatal("Intern where", n, "places are, and", strconv.Quote(text), "at", at, ", answered", number, int(e))
				}
				if e == api.OK && (len(got) != n || int(number) != at+1 || slices.Index(got, "b") != at) {
					t.Fatal("Intern where", n, "places are, and", strconv.Quote(text), "at", at, ", answered", number)
				}
			}
		}
	}
}

// P10.1: Sweep

func TestSweep(t *testing.T) {
	for _, x := range []struct {
		table string
		used  []uint16
		want  string
	}{
		{"", nil, ""}, {"", []uint16{0, 1, 2, greatest}, ""}, {"a", nil, ""}, {"a", []uint16{1}, "a"}, {"a", []uint16{0}, ""}, {"a", []uint16{2}, ""}, {"a", []uint16{greatest}, ""},
		{"abcd", nil, ""}, {"abcd", []uint16{1, 2, 3, 4}, "abcd"}, {"abcd", []uint16{4, 3, 2, 1}, "abcd"}, {"abcd", []uint16{1}, "a"}, {"abcd", []uint16{2}, ".b"}, {"abcd", []uint16{3}, "..c"}, {"abcd", []uint16{4}, "...d"},
		{"abcd", []uint16{0}, ""}, {"abcd", []uint16{0, 2}, ".b"}, {"abcd", []uint16{2, 2}, ".b"}, {"abcd", []uint16{3, 1, 3, 1, 3}, "a.c"}, {"abcd", []uint16{5}, ""}, {"abcd", []uint16{5, 1, 6, greatest}, "a"}, {"abcd", []uint16{4, 5}, "...d"},
		{"a..d", []uint16{1, 2, 3, 4}, "a..d"}, {"a..d", []uint16{1, 2, 3}, "a"}, {"a..d", []uint16{2, 3}, ""}, {"..c.", []uint16{1, 2, 3, 4}, "..c"}, {"....", []uint16{1, 2, 3, 4}, ""}, {"ab..", []uint16{1, 2}, "ab"}, {"ab..", []uint16{2, 4}, ".b"},
		{"?!%", []uint16{1, 2, 3}, "?!%"}, {"?!%", []uint16{2}, ".!"}, {"?!%", []uint16{1, 3}, "?.%"}, {"aa", []uint16{2}, ".a"}, {"aa", []uint16{1}, "a"}, {"aa", []uint16{1, 2}, "aa"},
		{places(20), nil, ""}, {places(20), []uint16{20}, strings.Repeat(".", 19) + "t"}, {places(20), []uint16{17}, strings.Repeat(".", 16) + "q"}, {places(20), []uint16{16, 18}, strings.Repeat(".", 15) + "p.r"}, {places(20), []uint16{21, 1}, "a"},
	} {
		if got := links.Sweep(list(x.table), x.used); letters(got) != x.want {
			t.Error("Sweep of", x.table, "with", told(x.used), "answered", letters(got), "and not", x.want)
		}
	}
}

func TestSweepOfAllSmallTables(t *testing.T) {
	all := rows([]uint16{0, 1, 2, 3, 4, 5, greatest}, 3)
	for _, table := range tables(4) {
		for _, used := range all {
			trySweep(t, table, used)
		}
	}
}

// All numbers that there are, and then none.
func TestSweepOfGreatTables(t *testing.T) {
	var used []uint16
	for n := range greatest + 1 {
		used = append(used, uint16(n))
	}
	for _, n := range []int{greatest - 1, greatest, greatest + 1, greatest + 2, 2*greatest + 3} {
		table := slices.Repeat([]string{"a"}, n)
		if got, want := links.Sweep(table, used), table[:min(n, greatest)]; !slices.Equal(got, want) {
			t.Error("Sweep of", n, "places answered", len(got))
		}
		if got := links.Sweep(table, []uint16{greatest, 0}); !slices.Equal(got, wantSweep(table, []uint16{greatest, 0})) {
			t.Error("Sweep of", n, "places, the last number used, answered", len(got))
		}
		if got := links.Sweep(table, []uint16{0}); len(got) != 0 {
			t.Error("Sweep of", n, "places, none used, answered", len(got))
		}
	}
}

// P10.1: Canon

func TestCanon(t *testing.T) {
	for _, x := range []struct {
		numbers []uint16
		table   string
		want    []uint16
		links   string
	}{
		{nil, "", nil, ""}, {nil, "ab", nil, ""}, {[]uint16{0}, "", []uint16{0}, ""}, {[]uint16{0, 0}, "ab", []uint16{0, 0}, ""}, {[]uint16{1, 2, greatest}, "", []uint16{0, 0, 0}, ""},
		{[]uint16{1}, "a", []uint16{1}, "a"}, {[]uint16{2}, "a", []uint16{0}, ""}, {[]uint16{2}, "ab", []uint16{1}, "b"}, {[]uint16{3}, "ab", []uint16{0}, ""}, {[]uint16{greatest}, "ab", []uint16{0}, ""}, {[]uint16{1 << 8, 1<<8 + 1}, "ab", []uint16{0, 0}, ""},
		{[]uint16{1, 2, 3}, "abc", []uint16{1, 2, 3}, "abc"}, {[]uint16{3, 2, 1}, "abc", []uint16{1, 2, 3}, "cba"}, {[]uint16{2, 2, 1, 3, 1, 2}, "abc", []uint16{1, 1, 2, 3, 2, 1}, "bac"}, {[]uint16{0, 3, 0, 1, 0}, "abc", []uint16{0, 1, 0, 2, 0}, "ca"},
		{[]uint16{4, 3, greatest, 1, 0, 2}, "abc", []uint16{0, 1, 0, 2, 0, 3}, "cab"}, {[]uint16{2}, "abc", []uint16{1}, "b"}, {[]uint16{3, 3, 3}, "abc", []uint16{1, 1, 1}, "c"},
		{[]uint16{1}, ".", []uint16{0}, ""}, {[]uint16{1, 2, 3}, "a.c", []uint16{1, 0, 2}, "ac"}, {[]uint16{2, 3, 2}, "a.c", []uint16{0, 1, 0}, "c"}, {[]uint16{3, 1, 2}, "..c", []uint16{1, 0, 0}, "c"},
		{[]uint16{1}, "?", []uint16{0}, ""}, {[]uint16{1, 2, 3}, "?a!", []uint16{0, 1, 0}, "a"}, {[]uint16{3, 2, 1}, "a?%", []uint16{0, 0, 1}, "a"}, {[]uint16{1, 2, 3, 4}, "L!M%", []uint16{1, 0, 2, 0}, "LM"},
		{[]uint16{1, 2}, "aa", []uint16{1, 1}, "a"}, {[]uint16{2, 1}, "aa", []uint16{1, 1}, "a"}, {[]uint16{3, 2, 1}, "aba", []uint16{1, 2, 1}, "ab"}, {[]uint16{2, 1, 3}, "aba", []uint16{1, 2, 2}, "ba"}, {[]uint16{4, 2, 1, 3}, "abba", []uint16{1, 2, 1, 2}, "ab"},
		{[]uint16{17, 20, 18, 17, 21, 1}, places(20), []uint16{1, 2, 3, 1, 0, 4}, "qtra"}, {[]uint16{18, 1, 19}, "a" + strings.Repeat("?", 16) + "ba", []uint16{1, 2, 2}, "ba"},
	} {
		got, uris := links.Canon(cells(x.numbers...), list(x.table))
		if !slices.Equal(got, cells(x.want...)) || letters(uris) != x.links {
			t.Error("Canon of", told(x.numbers), "and", x.table, "answered", told(numbers(got)), "and", letters(uris), "and not", told(x.want), "and", x.links)
		}
	}
}

func TestCanonOfAllSmallOnes(t *testing.T) {
	all := rows([]uint16{0, 1, 2, 3, 4, greatest}, 4)
	for _, table := range tables(3) {
		for _, n := range all {
			tryCanon(t, cells(n...), table)
		}
	}
}

// A table of more places than numbers, each with a text of its own: each number that there is leads to one.
func TestCanonOfAllNumbers(t *testing.T) {
	var table []string
	for i := range greatest + 3 {
		table = append(table, strconv.Itoa(i))
	}
	var l []api.Cell
	for n := range greatest + 1 {
		l = append(l, api.Cell{Rune: rune(n), Pen: api.Pen{Link: uint16(greatest - n)}})
	}
	got, uris := links.Canon(append(l, l...), table)
	if len(got) != 2*len(l) || len(uris) != greatest {
		t.Fatal("Canon answered", len(got), "cells and", len(uris), "links")
	}
	for i, c := range got {
		want := l[i%len(l)]
		want.Pen.Link = uint16((i%len(l) + 1) % len(l))
		if c != want {
			t.Fatal("the cell", i, "is", c, "and not", want)
		}
	}
	for i, uri := range uris {
		if uri != strconv.Itoa(greatest-1-i) {
			t.Fatal("the link", i, "is", uri)
		}
	}
}

// P10.1: Right

func TestRight(t *testing.T) {
	var seventeen []uint16
	for n := range 18 {
		seventeen = append(seventeen, uint16(n))
	}
	for _, x := range []struct {
		numbers []uint16
		links   string
		want    bool
	}{
		{nil, "", true}, {[]uint16{0}, "", true}, {[]uint16{0, 0, 0}, "", true}, {[]uint16{1}, "", false}, {[]uint16{greatest}, "", false}, {[]uint16{0, 1}, "", false},
		{nil, "a", false}, {[]uint16{0}, "a", false}, {[]uint16{1}, "a", true}, {[]uint16{1, 1, 0, 1}, "a", true}, {[]uint16{2}, "a", false}, {[]uint16{1, 2}, "a", false}, {[]uint16{1, greatest}, "a", false}, {[]uint16{0, 1, 0}, "a", true},
		{[]uint16{1, 2}, "ab", true}, {[]uint16{2, 1}, "ab", false}, {[]uint16{1}, "ab", false}, {[]uint16{2}, "ab", false}, {[]uint16{1, 2, 1, 2, 0}, "ab", true}, {[]uint16{0, 2, 1}, "ab", false}, {[]uint16{1, 2, 3}, "ab", false}, {[]uint16{1, 3, 2}, "ab", false},
		{[]uint16{1, 2, 3}, "abc", true}, {[]uint16{1, 1, 2, 1, 3, 2}, "abc", true}, {[]uint16{1, 3, 2}, "abc", false}, {[]uint16{2, 1, 3}, "abc", false}, {[]uint16{1, 3}, "abc", false}, {[]uint16{1, 2}, "abc", false}, {[]uint16{2, 3}, "abc", false}, {[]uint16{3, 2, 1}, "abc", false}, {[]uint16{1, 2, 4}, "abc", false}, {[]uint16{1, 2, 3, 4}, "abc", false},
		{[]uint16{1, 2}, "aa", false}, {[]uint16{1, 2, 3}, "aba", false}, {[]uint16{1, 2, 3}, "baa", false}, {[]uint16{1}, "aa", false}, {[]uint16{1, 2}, "LM", true}, {[]uint16{1, 2}, "LL", false},
		{[]uint16{1}, ".", false}, {[]uint16{0}, ".", false}, {nil, ".", false}, {[]uint16{1}, "?", false}, {[]uint16{1}, "!", false}, {[]uint16{1}, "%", false}, {[]uint16{1, 2}, "a?", false}, {[]uint16{1, 2}, "?a", false}, {[]uint16{1, 2, 3}, "a.b", false}, {[]uint16{1}, "a.", false},
		{seventeen[:16], places(15), true}, {seventeen[:17], places(16), true}, {seventeen[:18], places(17), false}, {seventeen[:17], places(17), false}, {seventeen[:18], places(16), false}, {seventeen[:16], places(16), false}, {seventeen[:17], places(15) + "a", false}, {seventeen[:17], places(15) + "?", false},
	} {
		if got := links.Right(cells(x.numbers...), list(x.links)); got != x.want {
			t.Error("Right of", told(x.numbers), "and", x.links, "answered", got)
		}
	}
}

func TestRightOfAllSmallOnes(t *testing.T) {
	all := rows([]uint16{0, 1, 2, 3, 4, greatest}, 4)
	for _, uris := range rows(list(".abc?"), 3) {
		for _, n := range all {
			tryRight(t, cells(n...), uris)
		}
	}
}

// All cells of a number, and then one.
func TestRightOfManyCells(t *testing.T) {
	var l []api.Cell
	for n := range uint16(mostLinks + 1) {
		l = append(l, slices.Repeat(cells(n), 5000)...)
	}
	if !links.Right(l, list(places(mostLinks))) {
		t.Error("many cells don't stand in order")
	}
	l[len(l)-1].Pen.Link = mostLinks + 1
	if links.Right(l, list(places(mostLinks))) || links.Right(l, list(places(mostLinks+1))) {
		t.Error("many cells stand in order, the last one too")
	}
}

// More cells than there are numbers, all of which come one by one.
func TestRightOfAllNumbers(t *testing.T) {
	var l []api.Cell
	var uris []string
	for n := range 2 * (greatest + 1) {
		l = append(l, api.Cell{Pen: api.Pen{Link: uint16(n)}})
		uris = append(uris, strconv.Itoa(n))
	}
	for _, n := range []int{0, 1, 2, 15, 16, 17, greatest, greatest + 1, 2*greatest + 1} {
		for _, m := range []int{1, 2, 3, 16, 17, 18, greatest + 1, greatest + 2, len(l)} {
			if got, want := links.Right(l[:m], uris[:n]), n <= mostLinks && m == n+1; got != want {
				t.Error("Right of", m, "cells and", n, "links answered", got)
			}
		}
	}
}

// P10.1: any tables

// anyText is a text that stands in tables: of few that may be, free, or one that may not.
func anyText(roll func(int) int) string {
	switch roll(8) {
	case 0:
		return ""
	case 1:
		return spelt("?!%"[roll(3)])
	}
	return spelt("abcdefghijklmnopqrstuvwxyzLM"[roll(28)])
}

// anyTable has up to most places.
func anyTable(roll func(int) int, most int) []string {
	var l []string
	for range roll(most + 1) {
		l = append(l, anyText(roll))
	}
	return l
}

// anyNumbers are up to most, near those of a table.
func anyNumbers(roll func(int) int, table []string, most int) []uint16 {
	var l []uint16
	for range roll(most + 1) {
		n := uint16(roll(len(table) + 3))
		if roll(16) == 0 {
			n = greatest - uint16(roll(3))
		}
		l = append(l, n)
	}
	return l
}

func TestAnyTables(t *testing.T) {
	roll := rolls(101)
	for range 20000 {
		table := anyTable(roll, 24)
		n := anyNumbers(roll, table, 40)
		tryIntern(t, table, anyText(roll))
		trySweep(t, table, n)
		tryCanon(t, cells(n...), table)
		tryRight(t, cells(n...), table)
	}
}

// Calls whose answers are handed to the next ones: what is in use keeps its number, and each number names what was put there.
func TestTableInUse(t *testing.T) {
	roll := rolls(102)
	for range 300 {
		var table []string
		names := map[uint16]string{}
		for range 60 {
			if roll(6) == 0 {
				var used []uint16
				for n := range uint16(mostLinks + 1) {
					if n > 0 && roll(3) > 0 {
						used = append(used, n)
						continue
					}
					delete(names, n)
				}
				trySweep(t, table, used)
				table = links.Sweep(table, used)
			}
			uri := places(26)[roll(26):][:1]
			tryIntern(t, table, uri)
			next, n, e := links.Intern(table, uri)
			if (e == api.ErrFull) != (len(names) == mostLinks && n == 0) {
				t.Fatal("Intern into", letters(table), "answered", n, int(e), "where", len(names), "are in use")
			}
			if e == api.OK {
				table, names[n] = next, uri
			}
			for n, uri := range names {
				if int(n) > len(table) || table[n-1] != uri {
					t.Fatal("the table", letters(table), "has no", uri, "at", n)
				}
			}
		}
	}
}

// P10.2

// sameTexts asks that each cell leads to where it led, or nowhere if that may not be, that all else of it is as it was, and that what was answered stands in order, if the table has at most so many texts as it may.
func sameTexts(t *testing.T, l []api.Cell, table []string) {
	t.Helper()
	got, uris := links.Canon(l, table)
	if len(got) != len(l) {
		t.Fatal("Canon of", len(l), "cells answered", len(got))
	}
	for i, c := range got {
		if leads(uris, c.Pen.Link) != leads(table, l[i].Pen.Link) || int(c.Pen.Link) > len(uris) {
			t.Fatal("the cell", i, "of", told(numbers(l)), "and", letters(table), "leads by", c.Pen.Link, "in", letters(uris))
		}
		c.Pen.Link = l[i].Pen.Link
		if c != l[i] {
			t.Fatal("the cell", i, "is", c, "and not", l[i])
		}
	}
	if right := links.Right(got, uris); right != (len(uris) <= mostLinks) || !right && len(table) <= mostLinks {
		t.Fatal("Canon of", told(numbers(l)), "and", letters(table), "answered", told(numbers(got)), "and", letters(uris), ", which stand in order:", right)
	}
}

// P10.3

// onceIsEnough asks that Canon of what it answered is the same.
func onceIsEnough(t *testing.T, l []api.Cell, table []string) {
	t.Helper()
	got, uris := links.Canon(l, table)
	again, all := links.Canon(got, uris)
	if !slices.Equal(again, got) || !slices.Equal(all, uris) {
		t.Fatal("Canon of", told(numbers(got)), "and", letters(uris), "answered", told(numbers(again)), "and", letters(all))
	}
}

// everyCanon does something with all small cells and tables, and with some of any size.
func everyCanon(t *testing.T, do func(t *testing.T, l []api.Cell, table []string)) {
	t.Helper()
	all := rows([]uint16{0, 1, 2, 3, 4, greatest}, 4)
	for _, table := range tables(3) {
		for _, n := range all {
			do(t, cells(n...), table)
		}
	}
	roll := rolls(103)
	for range 5000 {
		table := anyTable(roll, 24)
		do(t, cells(anyNumbers(roll, table, 60)...), table)
	}
	for n := range 20 {
		var used []uint16
		for i := range n {
			used = append(used, uint16(n-i))
		}
		do(t, cells(used...), list(places(n)))
	}
	do(t, cells(greatest, 1, greatest-1, greatest), append(slices.Repeat(list("?."), greatest/2), "a", "b"))
}

func TestSameTexts(t *testing.T) { everyCanon(t, sameTexts) }

func TestOnceIsEnough(t *testing.T) { everyCanon(t, onceIsEnough) }

// What stands in order is what Canon leaves as it is, where there are no more links than there may be.
func TestRightIsWhatCanonLeaves(t *testing.T) {
	all := rows([]uint16{0, 1, 2, 3, 4, greatest}, 4)
	for _, uris := range rows(list(".abc?"), 3) {
		for _, n := range all {
			l := cells(n...)
			got, same := links.Canon(l, uris)
			if left := slices.Equal(got, l) && slices.Equal(same, uris); left != links.Right(l, uris) {
				t.Fatal("Canon of", told(n), "and", letters(uris), "leaves them:", left)
			}
		}
	}
}

// R2

// answers are of one of each call, told in one form.
type answers struct {
	table, swept, links []string
	n                   uint16
	e                   api.Errno
	cells               []api.Cell
	may, right          bool
}

// each makes every call.
func each(l []api.Cell, table []string, used []uint16, uri string) answers {
	var a answers
	a.table, a.n, a.e = links.Intern(table, uri)
	a.swept = links.Sweep(table, used)
	a.cells, a.links = links.Canon(l, table)
	a.may, a.right = links.May(uri), links.Right(l, table)
	return a
}

// same tells whether two answers are.
func (a answers) same(b answers) bool {
	return slices.Equal(a.table, b.table) && slices.Equal(a.swept, b.swept) && slices.Equal(a.links, b.links) && slices.Equal(a.cells, b.cells) &&
		a.n == b.n && a.e == b.e && a.may == b.may && a.right == b.right
}

// asked are arguments of each call, from such where nothing changes to such where all does.
func asked() []struct {
	numbers []uint16
	table   string
	uri     byte
} {
	return []struct {
		numbers []uint16
		table   string
		uri     byte
	}{
		{nil, "", 'a'}, {[]uint16{0, 0}, "", '?'}, {[]uint16{1, 2, 1}, "ab", 'a'}, {[]uint16{1, 2, 1}, "ab", 'c'}, {[]uint16{3, 0, 1}, "a.c?", 'd'}, {[]uint16{2, 2, 9}, "aaa", 'b'},
		{[]uint16{16, 1, 15}, places(16), 'z'}, {[]uint16{16, 1, 15}, places(16), 'b'}, {[]uint16{18, 1, 17}, places(17) + ".", 'z'}, {[]uint16{4, 5}, "abc", '!'}, {[]uint16{1, 2, 3}, "abc", 'L'},
	}
}

func TestSameAgain(t *testing.T) {
	for _, x := range asked() {
		l, table := cells(x.numbers...), list(x.table)
		want := each(l, table, x.numbers, spelt(x.uri))
		var all sync.WaitGroup
		got := make([]bool, 8)
		for i := range got {
			all.Go(func() {
				got[i] = true
				for range 50 {
					got[i] = got[i] && want.same(each(l, table, x.numbers, spelt(x.uri)))
				}
			})
		}
		all.Wait()
		if slices.Contains(got, false) {
			t.Error("the calls with", told(x.numbers), "and", x.table, "answered something else")
		}
	}
}

// R3

// roomy is a list with spare room behind, which holds something, and a copy of it all.
func roomy[T any](l []T, spare ...T) (short, all, kept []T) {
	all = slices.Concat(l, spare)
	return all[:len(l)], all, slices.Clone(all)
}

// fill writes a thing over a list, and over its spare room.
func fill[T any](l []T, thing T) {
	l = l[:cap(l)]
	for i := range l {
		l[i] = thing
	}
}

func TestHandedInStays(t *testing.T) {
	for _, x := range asked() {
		l, allCells, keptCells := roomy(cells(x.numbers...), cells(7, 8, 9)...)
		table, allTexts, keptTexts := roomy(list(x.table), list("u.v?")...)
		used, allUsed, keptUsed := roomy(x.numbers, 1, 2, 3)
		each(l, table, used, spelt(x.uri))
		if !slices.Equal(allCells, keptCells) || !slices.Equal(allTexts, keptTexts) || !slices.Equal(allUsed, keptUsed) {
			t.Error("the calls with", told(x.numbers), "and", x.table, "changed what was handed in")
		}
	}
}

func TestNewMemory(t *testing.T) {
	for _, x := range asked() {
		l, allCells, keptCells := roomy(cells(x.numbers...), cells(7, 8, 9)...)
		table, allTexts, keptTexts := roomy(list(x.table), list("u.v?")...)
		want := each(l, table, x.numbers, spelt(x.uri))
		for i := range 4 {
			got, other := each(l, table, x.numbers, spelt(x.uri)), each(l, table, x.numbers, spelt(x.uri))
			switch i {
			case 0:
				fill(got.table, "w")
				got.table = want.table
			case 1:
				fill(got.swept, "w")
				got.swept = want.swept
			case 2:
				fill(got.links, "w")
				got.links = want.links
			case 3:
				fill(got.cells, api.Cell{Rune: 'w'})
				got.cells = want.cells
			}
			if !slices.Equal(allCells, keptCells) || !slices.Equal(allTexts, keptTexts) {
				t.Error("the answer", i, "to", told(x.numbers), "and", x.table, "shares what was handed in")
			}
			if !got.same(want) || !other.same(want) {
				t.Error("the answer", i, "to", told(x.numbers), "and", x.table, "shares another one")
			}
		}
	}
}

func TestAnswersStay(t *testing.T) {
	for _, x := range asked() {
		l, table, used := cells(x.numbers...), list(x.table), slices.Clone(x.numbers)
		got, want := each(l, table, used, spelt(x.uri)), each(cells(x.numbers...), list(x.table), x.numbers, spelt(x.uri))
		fill(l, api.Cell{Rune: 'w'})
		fill(table, "w")
		fill(used, 1)
		if !got.same(want) {
			t.Error("what was answered to", told(x.numbers), "and", x.table, "became something else")
		}
	}
}

// R1, R4

func TestNothing(t *testing.T) {
	texts := [][]string{nil, {}, list("abc")[:0]}
	places := [][]api.Cell{nil, {}, cells(1, 2)[:0]}
	used := [][]uint16{nil, {}, []uint16{1, 2}[:0]}
	for i := range 3 {
		for j := range 3 {
			for _, uri := range list("aL.?!") {
				want := answers{e: api.ErrForm}
				if wantMay(uri) {
					want = answers{table: []string{uri}, n: 1, may: true}
				}
				want.right = true
				if got := each(places[i], texts[j], used[(i+j)%3], uri); !got.same(want) {
					t.Error("Intern of", letters([]string{uri}), "into nothing answered", letters(got.table), got.n, int(got.e))
				}
			}
		}
		if got := links.Sweep(list("ab"), used[i]); len(got) != 0 {
			t.Error("Sweep with nothing used answered", letters(got))
		}
		if got, uris := links.Canon(places[i], list("ab")); len(got) != 0 || len(uris) != 0 {
			t.Error("Canon of no cells answered", letters(uris))
		}
		if got, uris := links.Canon(cells(1, 0), texts[i]); !slices.Equal(got, cells(0, 0)) || len(uris) != 0 {
			t.Error("Canon of no texts answered", told(numbers(got)), "and", letters(uris))
		}
		if links.Right(places[i], list("a")) || links.Right(cells(1), texts[i]) || !links.Right(cells(0), texts[i]) {
			t.Error("Right of nothing is wrong")
		}
	}
}
