package wire_test

import (
	"bytes"
	"math"
	"testing"

	"spyglass/api"
	"spyglass/wire"
)

const top = math.MaxUint64

// edges are numbers at which something begins or ends.
func edges() []uint64 {
	l := []uint64{0, 1, 2, 97, 255, 256, 258, 300, 4095, 4096, 4097, top - 1, top}
	for bit := 7; bit < 64; bit++ {
		l = append(l, 1<<bit-1, 1<<bit, 1<<bit+1)
	}
	return l
}

// rolls answers numbers that look like none in particular, the same ones each time.
func rolls(seed uint64) func(below int) int {
	return func(below int) int {
		seed = seed*6364136223846793005 + 1442695040888963407
		return int((seed >> 33) % uint64(below))
	}
}

// needs tells by how many bytes Num can lay n.
func needs(n uint64) int {
	size := 1
	for ; n > 255; n /= 256 {
		size++
	}
	return size
}

// P1.1

func TestNumLaysTheLowestBytes(t *testing.T) {
	for _, x := range []struct {
		n    uint64
		size int
		want []byte
	}{
		{258, 3, []byte{0, 1, 2}},
		{258, 2, []byte{1, 2}},
		{258, 1, []byte{2}},
		{0, 1, []byte{0}},
		{0, 8, make([]byte, 8)},
		{0x0102030405060708, 8, []byte{1, 2, 3, 4, 5, 6, 7, 8}},
		{0x0102030405060708, 4, []byte{5, 6, 7, 8}},
		{top, 8, bytes.Repeat([]byte{255}, 8)},
		{top, 7, bytes.Repeat([]byte{255}, 7)},
		{258, 0, nil},
		{258, -1, nil},
		{258, 9, nil},
		{258, math.MaxInt, nil},
		{258, math.MinInt, nil},
	} {
		if b := wire.Num(x.n, x.size); !bytes.Equal(b, x.want) {
			t.Errorf("Num(%d, %d) is %v, not %v", x.n, x.size, b, x.want)
		}
	}
}

func TestVarLaysDigits(t *testing.T) {
	for _, x := range []struct {
		n    uint64
		want []byte
	}{
		{0, []byte{0}},
		{1, []byte{1}},
		{127, []byte{127}},
		{128, []byte{128, 1}},
		{255, []byte{255, 1}},
		{256, []byte{128, 2}},
		{300, []byte{172, 2}},
		{16383, []byte{255, 127}},
		{16384, []byte{128, 128, 1}},
		{1 << 62, []byte{128, 128, 128, 128, 128, 128, 128, 128, 64}},
		{1<<63 - 1, []byte{255, 255, 255, 255, 255, 255, 255, 255, 127}},
		{1 << 63, []byte{128, 128, 128, 128, 128, 128, 128, 128, 128, 1}},
		{top, []byte{255, 255, 255, 255, 255, 255, 255, 255, 255, 1}},
	} {
		if b := wire.Var(x.n); !bytes.Equal(b, x.want) {
			t.Errorf("Var(%d) is %v, not %v", x.n, b, x.want)
		}
	}
}

func TestTextLaysItsLengthAhead(t *testing.T) {
	for _, n := range []int{0, 1, 5, 127, 128, 4095, 4096} {
		in := bytes.Repeat([]byte{9}, n)
		b, e := wire.Text(in)
		if e != api.OK || !bytes.Equal(b, append(wire.Var(uint64(n)), in...)) {
			t.Errorf("Text of %d bytes: %d bytes, error %d", n, len(b), e)
		}
	}
	if b, e := wire.Text([]byte("ab")); e != api.OK || !bytes.Equal(b, []byte{2, 'a', 'b'}) {
		t.Errorf("Text of ab: %v, error %d", b, e)
	}
	if b, e := wire.Text(nil); e != api.OK || !bytes.Equal(b, []byte{0}) {
		t.Errorf("Text of nothing: %v, error %d", b, e)
	}
	for _, n := range []int{4097, 5000, 70000} {
		if b, e := wire.Text(make([]byte, n)); e != api.ErrLong || len(b) != 0 {
			t.Errorf("Text of %d bytes: %d bytes, error %d", n, len(b), e)
		}
	}
}

// told is what one call of a reader answers.
type told struct {
	n uint64
	b string
}

// A call is one of a reader.
type call struct {
	name string
	do   func(r *wire.Reader) told
}

func num(size int) call {
	return call{"Num", func(r *wire.Reader) told { return told{n: r.Num(size)} }}
}

func digits() call {
	return call{"Var", func(r *wire.Reader) told { return told{n: r.Var()} }}
}

func text(most int) call {
	return call{"Text", func(r *wire.Reader) told { return told{b: string(r.Text(most))} }}
}

func take(n int) call {
	return call{"Take", func(r *wire.Reader) told { return told{b: string(r.Take(n))} }}
}

// after holds what a reader must be behind a call.
type after struct {
	want told
	err  api.Errno
	left int
}

func check(t *testing.T, b []byte, c call, want after) {
	t.Helper()
	r := wire.New(b)
	got := c.do(r)
	if got != want.want || r.Err() != want.err || r.Left() != want.left {
		t.Errorf("%s of %v tells %v, error %d, left %d; not %v", c.name, b, got, r.Err(), r.Left(), want)
	}
	end := want.err
	if end == api.OK && want.left > 0 {
		end = api.ErrRest
	}
	if r.End() != end {
		t.Errorf("behind %s of %v End is %d, not %d", c.name, b, r.End(), end)
	}
}

func TestReaderReads(t *testing.T) {
	nine := bytes.Repeat([]byte{255}, 9)
	for _, x := range []struct {
		b    []byte
		c    call
		want after
	}{
		{[]byte{0, 1, 2, 3}, num(3), after{told{n: 258}, api.OK, 1}},
		{[]byte{7}, num(1), after{told{n: 7}, api.OK, 0}},
		{append([]byte{255}, nine...), num(8), after{told{n: top}, api.OK, 2}},
		{[]byte{0, 9}, digits(), after{told{n: 0}, api.OK, 1}},
		{[]byte{127, 0}, digits(), after{told{n: 127}, api.OK, 1}},
		{[]byte{172, 2}, digits(), after{told{n: 300}, api.OK, 0}},
		{append(nine[:9:9], 1), digits(), after{told{n: top}, api.OK, 0}},
		{append(nine[:9:9], 1, 0), digits(), after{told{n: top}, api.OK, 1}},
		{[]byte{2, 7, 8, 9}, text(5), after{told{b: "\x07\x08"}, api.OK, 1}},
		{[]byte{2, 7, 8}, text(2), after{told{b: "\x07\x08"}, api.OK, 0}},
		{[]byte{0}, text(0), after{told{}, api.OK, 0}},
		{[]byte{1, 7}, text(math.MaxInt), after{told{b: "\x07"}, api.OK, 0}},
		{[]byte{7, 8, 9}, take(2), after{told{b: "\x07\x08"}, api.OK, 1}},
		{[]byte{7, 8, 9}, take(3), after{told{b: "\x07\x08\x09"}, api.OK, 0}},
		{[]byte{7}, take(0), after{told{}, api.OK, 1}},
		{nil, take(0), after{told{}, api.OK, 0}},
	} {
		check(t, x.b, x.c, x.want)
	}
}

func TestReaderRefuses(t *testing.T) {
	nine := bytes.Repeat([]byte{255}, 9)
	for _, x := range []struct {
		b   []byte
		c   call
		err api.Errno
	}{
		{[]byte{1, 2}, num(0), api.ErrArg},
		{[]byte{1, 2}, num(9), api.ErrArg},
		{[]byte{1, 2}, num(math.MinInt), api.ErrArg},
		{nil, num(math.MaxInt), api.ErrArg},
		{[]byte{1, 2}, num(3), api.ErrShort},
		{nil, num(1), api.ErrShort},
		{nil, digits(), api.ErrShort},
		{[]byte{128}, digits(), api.ErrShort},
		{nine, digits(), api.ErrShort},
		{[]byte{128, 0}, digits(), api.ErrForm},
		{[]byte{128, 128, 0, 1}, digits(), api.ErrForm},
		{append(nine[:9:9], 0), digits(), api.ErrForm},
		{append(nine[:9:9], 2), digits(), api.ErrForm},
		{append(nine[:9:9], 128), digits(), api.ErrForm},
		{append(nine[:9:9], 129, 1), digits(), api.ErrForm},
		{append(nine[:9:9], 255), digits(), api.ErrForm},
		{nil, text(5), api.ErrShort},
		{[]byte{128}, text(-1), api.ErrShort},
		{[]byte{128, 0}, text(-1), api.ErrForm},
		{[]byte{2, 7, 8}, text(1), api.ErrLong},
		{[]byte{2, 7}, text(1), api.ErrLong},
		{[]byte{0}, text(-1), api.ErrLong},
		{[]byte{1, 7}, text(math.MinInt), api.ErrLong},
		{append(nine[:9:9], 1), text(math.MaxInt), api.ErrLong},
		{[]byte{3, 7, 8}, text(3), api.ErrShort},
		{append(nine[:8:8], 127), text(math.MaxInt), api.ErrShort},
		{[]byte{7}, take(2), api.ErrShort},
		{nil, take(math.MaxInt), api.ErrShort},
		{[]byte{7}, take(-1), api.ErrArg},
		{nil, take(math.MinInt), api.ErrArg},
	} {
		check(t, x.b, x.c, after{told{}, x.err, len(x.b)})
	}
}

func TestEveryCallBehindAnErrorTellsNothing(t *testing.T) {
	b := []byte{1, 7, 0, 0, 0, 0, 0, 0, 0}
	later := []call{num(1), num(0), digits(), text(5), text(-1), take(1), take(-1), take(0)}
	for _, x := range []struct {
		c    call
		want api.Errno
	}{{num(9), api.ErrArg}, {take(10), api.ErrShort}, {text(0), api.ErrLong}, {take(-1), api.ErrArg}} {
		r := wire.New(b)
		x.c.do(r)
		for _, c := range later {
			if got := c.do(r); got != (told{}) || r.Err() != x.want || r.End() != x.want || r.Left() != len(b) {
				t.Errorf("%s behind %s: %v, error %d, left %d", c.name, x.c.name, got, r.Err(), r.Left())
			}
		}
	}
}

// A model is a reader that keeps all bytes and says the chapter's words one by one.
type model struct {
	b     []byte
	place int
	err   api.Errno
}

func (m *model) left() int { return len(m.b) - m.place }

func (m *model) fail(e api.Errno, place int) told {
	m.err, m.place = e, place
	return told{}
}

func (m *model) num(size int) told {
	switch {
	case m.err != api.OK:
		return told{}
	case size < 1 || size > 8:
		return m.fail(api.ErrArg, m.place)
	case m.left() < size:
		return m.fail(api.ErrShort, m.place)
	}
	var n uint64
	for ; size > 0; size-- {
		n = n*256 + uint64(m.b[m.place])
		m.place++
	}
	return told{n: n}
}

func (m *model) digits() told {
	if m.err != api.OK {
		return told{}
	}
	start, worth, n := m.place, uint64(1), uint64(0)
	for count := 1; ; count++ {
		if m.left() == 0 {
			return m.fail(api.ErrShort, start)
		}
		d := m.b[m.place]
		if count == 10 && d > 1 || d == 0 && count > 1 {
			return m.fail(api.ErrForm, start)
		}
		m.place++
		n += uint64(d&127) * worth
		if d < 128 {
			return told{n: n}
		}
		worth *= 128
	}
}

func (m *model) text(most int) told {
	start := m.place
	n := m.digits().n
	switch {
	case m.err != api.OK:
		return told{}
	case most < 0 || n > uint64(most):
		return m.fail(api.ErrLong, start)
	case n > uint64(m.left()):
		return m.fail(api.ErrShort, start)
	}
	return m.take(int(n))
}

func (m *model) take(n int) told {
	switch {
	case m.err != api.OK:
		return told{}
	case n < 0:
		return m.fail(api.ErrArg, m.place)
	case m.left() < n:
		return m.fail(api.ErrShort, m.place)
	}
	m.place += n
	return told{b: string(m.b[m.place-n : m.place])}
}

// someBytes answers bytes of which numbers and texts often can be read.
func someBytes(roll func(int) int) []byte {
	b := make([]byte, roll(40))
	for i := range b {
		switch roll(4) {
		case 0:
			b[i] = byte(roll(4))
		case 1:
			b[i] = byte(128 + roll(128))
		default:
			b[i] = byte(roll(128))
		}
	}
	return b
}

func TestRowsOfCallsAreAsTheModelSays(t *testing.T) {
	roll := rolls(1)
	for row := range 20000 {
		b := someBytes(roll)
		r, m := wire.New(b), &model{b: b}
		for step := range 12 {
			var got, want told
			switch k := roll(4); k {
			case 0:
				size := roll(10)
				got, want = num(size).do(r), m.num(size)
			case 1:
				got, want = digits().do(r), m.digits()
			case 2:
				most := roll(20) - 1
				got, want = text(most).do(r), m.text(most)
			case 3:
				n := roll(9) - 1
				got, want = take(n).do(r), m.take(n)
			}
			if got != want || r.Err() != m.err || r.Left() != m.left() {
				t.Fatalf("row %d, step %d of %v: %v, error %d, left %d; not %v, %d, %d", row, step, b, got, r.Err(), r.Left(), want, m.err, m.left())
			}
		}
	}
}

// P1.2

// behinds are bytes that may stand behind what is read.
func behinds() [][]byte {
	return [][]byte{nil, {0}, {1}, {127}, {128}, {255, 255}, {2, 7, 8, 9}, bytes.Repeat([]byte{255}, 20)}
}

func TestNumbersAreReadAsTheyWereLaid(t *testing.T) {
	for _, n := range edges() {
		for _, behind := range behinds() {
			for size := needs(n); size <= 8; size++ {
				r := wire.New(append(wire.Num(n, size), behind...))
				if got := r.Num(size); got != n || r.Err() != api.OK || r.Left() != len(behind) {
					t.Errorf("Num of %d by %d: %d, error %d, left %d", n, size, got, r.Err(), r.Left())
				}
			}
			r := wire.New(append(wire.Var(n), behind...))
			if got := r.Var(); got != n || r.Err() != api.OK || r.Left() != len(behind) {
				t.Errorf("Var of %d: %d, error %d, left %d", n, got, r.Err(), r.Left())
			}
		}
	}
}

func TestTextsAreReadAsTheyWereLaid(t *testing.T) {
	for _, size := range []int{0, 1, 127, 128, 4095, 4096} {
		in := make([]byte, size)
		for i := range in {
			in[i] = byte(i * 7)
		}
		b, _ := wire.Text(in)
		for _, behind := range behinds() {
			r := wire.New(append(bytes.Clone(b), behind...))
			if got := r.Text(size); !bytes.Equal(got, in) || r.Err() != api.OK || r.Left() != len(behind) {
				t.Errorf("Text of %d bytes: %d bytes, error %d, left %d", size, len(got), r.Err(), r.Left())
			}
		}
	}
}

func TestRowsAreReadAsTheyWereLaid(t *testing.T) {
	var all []byte
	for _, n := range edges() {
		b, _ := wire.Text(wire.Num(n, 8))
		all = append(append(append(all, wire.Var(n)...), wire.Num(n, needs(n))...), b...)
	}
	r := wire.New(all)
	for _, n := range edges() {
		if got := r.Var(); got != n {
			t.Errorf("Var in a row: %d, not %d", got, n)
		}
		if got := r.Num(needs(n)); got != n {
			t.Errorf("Num in a row: %d, not %d", got, n)
		}
		if got := r.Text(8); !bytes.Equal(got, wire.Num(n, 8)) {
			t.Errorf("Text in a row: %v of %d", got, n)
		}
	}
	if r.End() != api.OK || r.Left() != 0 {
		t.Errorf("at the end: %d, left %d", r.End(), r.Left())
	}
}

// P1.3

// oneForm tells whether what Var reads of b, if it reads something, is just what Var lays.
func oneForm(b []byte) bool {
	r := wire.New(b)
	n := r.Var()
	if r.Err() != api.OK {
		return n == 0 && r.Left() == len(b)
	}
	return bytes.Equal(wire.Var(n), b[:len(b)-r.Left()])
}

func TestNumbersHaveOneForm(t *testing.T) {
	for i := range 1 << 24 {
		b := []byte{byte(i), byte(i >> 8), byte(i >> 16)}
		if b[2] > 2 && b[2] < 126 || b[2] > 130 && b[2] < 254 {
			continue
		}
		if !oneForm(b) {
			t.Fatalf("%v is read, but isn't the form of its number", b)
		}
	}
}

func TestLongNumbersHaveOneForm(t *testing.T) {
	digits := []byte{0, 1, 2, 127, 128, 129, 254, 255}
	for size := 8; size <= 11; size++ {
		for _, fill := range []byte{128, 129, 255} {
			b := bytes.Repeat([]byte{fill}, size)
			for i := range 8 * 8 * 8 {
				b[size-3], b[size-2], b[size-1] = digits[i/64], digits[i/8%8], digits[i%8]
				if !oneForm(b) {
					t.Fatalf("%v is read, but isn't the form of its number", b)
				}
			}
		}
	}
}

func TestNoNumberHasTwoForms(t *testing.T) {
	forms := map[uint64]string{}
	for i := range 1 << 16 {
		b := []byte{byte(i), byte(i >> 8), 1}
		r := wire.New(b)
		n := r.Var()
		if r.Err() != api.OK {
			continue
		}
		form := string(b[:len(b)-r.Left()])
		if old, ok := forms[n]; ok && old != form {
			t.Fatalf("%d is read of %v and of %v", n, []byte(old), []byte(form))
		}
		forms[n] = form
	}
}

// R1

func TestNilReader(t *testing.T) {
	var r *wire.Reader
	for _, c := range []call{num(1), num(0), digits(), text(5), text(-1), take(1), take(0), take(-1)} {
		if got := c.do(r); got != (told{}) {
			t.Errorf("%s of a nil reader: %v", c.name, got)
		}
	}
	if r.Left() != 0 || r.Err() != api.ErrArg || r.End() != api.ErrArg {
		t.Errorf("a nil reader: left %d, error %d, end %d", r.Left(), r.Err(), r.End())
	}
}

func TestNoCallPanics(t *testing.T) {
	numbers := []int{math.MinInt, math.MinInt + 1, -9, -8, -1, 0, 1, 7, 8, 9, 64, 4096, 1 << 31, math.MaxInt - 1, math.MaxInt}
	bytesOf := [][]byte{nil, {}, {0}, {128}, {255, 255}, {3, 7, 8}, bytes.Repeat([]byte{255}, 30), wire.Var(top), wire.Var(1 << 63), wire.Var(1<<63 - 1), wire.Var(1 << 32)}
	for _, n := range numbers {
		wire.Num(top, n)
		for _, b := range bytesOf {
			for _, c := range []call{num(n), digits(), text(n), take(n)} {
				r := wire.New(b)
				c.do(r)
				c.do(r)
				if left := r.Left(); left < 0 || left > len(b) {
					t.Errorf("%s with %d of %v: left %d", c.name, n, b, left)
				}
				r.End()
			}
		}
	}
	for _, b := range bytesOf {
		wire.Text(b)
	}
}

// R3 and R4

func TestWhatIsHandedInStaysAsItIs(t *testing.T) {
	room := []byte{1, 7, 2, 8, 9, 44, 55, 66}
	was := bytes.Clone(room)
	in := room[:5]
	r := wire.New(in)
	r.Text(5)
	r.Take(1)
	r.Num(2)
	if _, e := wire.Text(in); e != api.OK {
		t.Error(e)
	}
	if !bytes.Equal(room, was) {
		t.Errorf("%v was made of %v", room, was)
	}
}

func TestReaderKeepsNothingThatWasHandedIn(t *testing.T) {
	in := []byte{1, 7, 172, 2, 9}
	r := wire.New(in)
	clear(in)
	if b := r.Text(1); !bytes.Equal(b, []byte{7}) {
		t.Errorf("a text behind a change of what was handed in: %v", b)
	}
	if n := r.Var(); n != 300 {
		t.Errorf("a number behind a change of what was handed in: %d", n)
	}
}

// fill writes over a list and its spare room.
func fill(b []byte) {
	b = b[:cap(b)]
	for i := range b {
		b[i] = 99
	}
}

func TestAnswersAreNewMemory(t *testing.T) {
	in := []byte{2, 7, 8, 4, 5, 6, 1, 2, 3}
	was := bytes.Clone(in)
	r := wire.New(in)
	first := r.Text(5)
	second := r.Take(2)
	fill(first)
	if !bytes.Equal(second, []byte{4, 5}) {
		t.Errorf("a later answer shares with one ahead: %v", second)
	}
	fill(second)
	if b := r.Take(4); !bytes.Equal(b, []byte{6, 1, 2, 3}) {
		t.Errorf("the reader shares with its answers: %v", b)
	}
	if !bytes.Equal(in, was) {
		t.Errorf("an answer shares with what was handed in: %v", in)
	}
	b, _ := wire.Text(in)
	fill(b)
	if !bytes.Equal(in, was) {
		t.Errorf("Text shares with what was handed in: %v", in)
	}
	fill(wire.Num(258, 3))
	fill(wire.Var(300))
	if !bytes.Equal(wire.Num(258, 3), []byte{0, 1, 2}) || !bytes.Equal(wire.Var(300), []byte{172, 2}) {
		t.Error("Num and Var share with what they answered ahead")
	}
}

func TestNoBytesAreNilOrEmpty(t *testing.T) {
	for _, b := range [][]byte{nil, {}} {
		r := wire.New(b)
		if r.End() != api.OK || r.Left() != 0 || len(r.Take(0)) != 0 || r.Err() != api.OK {
			t.Errorf("a reader of no bytes: end %d", r.End())
		}
		if laid, e := wire.Text(b); e != api.OK || !bytes.Equal(laid, []byte{0}) {
			t.Errorf("Text of no bytes: %v, error %d", laid, e)
		}
	}
}
