package color_test

import (
	"math"
	"strconv"
	"strings"
	"sync"
	"testing"

	"spyglass/api"
	"spyglass/color"
)

const (
	// rgb is what a colour of three parts has more.
	rgb = 1 << 24
	// lastRgb is the last one of them.
	lastRgb = rgb + 0xFFFFFF
	// The features of colours, and all bits but theirs.
	fColor, fTrue = 1, 2
	others        = math.MaxUint32 - fColor - fTrue
)

// sixteen are the parts of the first sixteen colours, as the chapter tells them.
const sixteen = "0 0 0; 205 0 0; 0 205 0; 205 205 0; 0 0 238; 205 0 205; 0 205 205; 229 229 229; 127 127 127; 255 0 0; 0 255 0; 255 255 0; 92 92 255; 255 0 255; 0 255 255; 255 255 255"

// parts are a colour's, and whether it has any.
type parts struct {
	r, g, b int
	ok      bool
}

func (p parts) String() string {
	return strconv.Itoa(p.r) + " " + strconv.Itoa(p.g) + " " + strconv.Itoa(p.b) + " " + strconv.FormatBool(p.ok)
}

// partsOf are those that Parts answers.
func partsOf(c api.Color) parts {
	r, g, b, ok := color.Parts(c)
	return parts{r, g, b, ok}
}

// of is the colour of three parts.
func of(r, g, b int) api.Color { return api.Color(rgb + 65536*r + 256*g + b) }

// rolls answers numbers that look like none in particular, the same ones each time.
func rolls(seed uint64) func(below int) int {
	return func(below int) int {
		seed = seed*6364136223846793005 + 1442695040888963407
		return int((seed >> 33) % uint64(below))
	}
}

// The model: each takes the words of the chapter one by one.

// palette are the parts of the colours 0 to 255: the texts of the first sixteen, all levels by all levels by all levels, and the greys.
func palette() []parts {
	var l []parts
	for _, text := range strings.Split(sixteen, "; ") {
		var three [3]int
		for i, number := range strings.Fields(text) {
			three[i], _ = strconv.Atoi(number)
		}
		l = append(l, parts{three[0], three[1], three[2], true})
	}
	levels := []int{0, 95, 135, 175, 215, 255}
	for _, r := range levels {
		for _, g := range levels {
			for _, b := range levels {
				l = append(l, parts{r, g, b, true})
			}
		}
	}
	for grey := 8; len(l) < 256; grey += 10 {
		l = append(l, parts{grey, grey, grey, true})
	}
	return l
}

// model is what a test holds answers against.
type model struct{ palette []parts }

func newModel() model { return model{palette()} }

// parts is what Parts has to answer.
func (m model) parts(c api.Color) parts {
	switch {
	case c >= 1 && c <= 256:
		return m.palette[c-1]
	case c >= rgb && c <= lastRgb:
		n := int(c) % rgb
		return parts{n / 65536, n / 256 % 256, n % 256, true}
	}
	return parts{}
}

// far is what Far has to answer.
func (m model) far(x, y api.Color) int {
	p, q := m.parts(x), m.parts(y)
	if !p.ok || !q.ok {
		return -1
	}
	far := 0
	for _, d := range []int{p.r - q.r, p.g - q.g, p.b - q.b} {
		far += d * d
	}
	return far
}

// nearest is that of the colours from first to last, counted from 0 on, that is nearest: gone through from the last one on, so that of several the least is told.
func (m model) nearest(c api.Color, first, last int) api.Color {
	best, least := api.Color(0), math.MaxInt
	for i := last; i >= first; i-- {
		if far := m.far(c, api.Color(i+1)); far <= least {
			best, least = api.Color(i+1), far
		}
	}
	return best
}

// to256 is what To256 has to answer.
func (m model) to256(c api.Color) api.Color {
	if c >= rgb && c <= lastRgb {
		return m.nearest(c, 16, 255)
	}
	return c
}

// to16 is what To16 has to answer.
func (m model) to16(c api.Color) api.Color {
	if c >= rgb && c <= lastRgb || c >= 17 && c <= 256 {
		return m.nearest(c, 0, 15)
	}
	return c
}

// fit is what Fit has to answer, case by case.
func (m model) fit(c api.Color, features uint32) api.Color {
	hasColor, hasTrue := features%2 == 1, features/2%2 == 1
	ofThree, beyond := c >= rgb && c <= lastRgb, c >= 17 && c <= 256
	switch {
	case ofThree && hasTrue:
		return c
	case ofThree && hasColor:
		return m.to256(c)
	case ofThree:
		return m.to16(c)
	case beyond && hasColor:
		return c
	case beyond:
		return m.to16(c)
	}
	return c
}

// strange are numbers that are no colours, and 0, which has no parts.
func strange() []api.Color {
	return []api.Color{0, 257, 258, 272, 511, 512, 513, 65535, 65536, 65537, rgb - 65536, rgb - 256, rgb - 1, 2 * rgb, 2*rgb + 1, 2*rgb + 22, 2*rgb + 256, 3 * rgb, 3*rgb - 1, 1 << 31, 1<<31 + 1, 1<<31 + rgb, math.MaxUint32 - rgb, math.MaxUint32 - 1, math.MaxUint32}
}

// edges are parts at which something begins or ends: levels, greys, parts of the first sixteen, and what lies halfway between two of these.
func edges() []int {
	return []int{0, 1, 4, 8, 13, 46, 47, 48, 64, 92, 95, 96, 102, 103, 115, 119, 127, 135, 155, 175, 178, 195, 205, 215, 229, 230, 235, 238, 242, 247, 254, 255}
}

// many are colours of three parts: all of edges, all greys and what lies beside them, and some that look like none in particular.
func many() []api.Color {
	var l []api.Color
	for _, r := range edges() {
		for _, g := range edges() {
			for _, b := range edges() {
				l = append(l, of(r, g, b))
			}
		}
	}
	for n := range 256 {
		l = append(l, of(n, n, n), of(n, n, n^1), of(n, n^1, n), of(n^1, n, n), of(n, 0, 0), of(0, n, 0), of(0, 0, n))
	}
	roll := rolls(13)
	for range 20000 {
		l = append(l, api.Color(rgb+roll(rgb)))
	}
	return l
}

// colours are of all kinds: those of 256, some of three parts, and what is none.
func colours() []api.Color {
	l := strange()
	for c := range api.Color(256) {
		l = append(l, c+1)
	}
	for _, n := range edges() {
		l = append(l, of(n, n, n), of(n, 255-n, 7), of(7, n, 255-n), of(255, 7, n))
	}
	return l
}

// features are all of those of colours, alone, with others, and with bits that no feature has.
func features() []uint32 {
	var l []uint32
	for own := range uint32(4) {
		for _, more := range []uint32{0, 4, 8, 16, 32, 60, 64, 128, 1 << 16, 1 << 30, 1 << 31, others - 60, others} {
			l = append(l, own+more)
		}
	}
	return l
}

// P13.1: Parts

func TestExamples(t *testing.T) {
	if p := partsOf(256); p != (parts{238, 238, 238, true}) {
		t.Error("the parts of 256 are", p)
	}
	if c := color.To256(rgb + 255); c != 22 {
		t.Error("To256 of Rgb + 255 is", c)
	}
	if c := color.To16(rgb); c != 1 {
		t.Error("To16 of Rgb is", c)
	}
	if c := color.To16(22); c != 5 {
		t.Error("To16 of 22 is", c)
	}
}

func TestPartsOfSixteen(t *testing.T) {
	for i, text := range strings.Split(sixteen, "; ") {
		if p := partsOf(api.Color(i + 1)); p.String() != text+" true" {
			t.Error("the parts of the colour", i, "are", p, "and not", text)
		}
	}
}

func TestParts(t *testing.T) {
	for c, want := range map[api.Color]parts{
		15 + 1: {255, 255, 255, true}, 16 + 1: {0, 0, 0, true}, 231 + 1: {255, 255, 255, true}, 232 + 1: {8, 8, 8, true}, 255 + 1: {238, 238, 238, true},
		17 + 1: {0, 0, 95, true}, 18 + 1: {0, 0, 135, true}, 19 + 1: {0, 0, 175, true}, 20 + 1: {0, 0, 215, true}, 21 + 1: {0, 0, 255, true},
		22 + 1: {0, 95, 0, true}, 28 + 1: {0, 135, 0, true}, 34 + 1: {0, 175, 0, true}, 40 + 1: {0, 215, 0, true}, 46 + 1: {0, 255, 0, true}, 51 + 1: {0, 255, 255, true},
		52 + 1: {95, 0, 0, true}, 88 + 1: {135, 0, 0, true}, 124 + 1: {175, 0, 0, true}, 160 + 1: {215, 0, 0, true}, 196 + 1: {255, 0, 0, true},
		60 + 1: {95, 95, 135, true}, 139 + 1: {175, 135, 175, true}, 230 + 1: {255, 255, 215, true},
		233 + 1: {18, 18, 18, true}, 244 + 1: {128, 128, 128, true}, 254 + 1: {228, 228, 228, true},
		rgb: {0, 0, 0, true}, rgb + 1: {0, 0, 1, true}, rgb + 255: {0, 0, 255, true}, rgb + 256: {0, 1, 0, true}, rgb + 65535: {0, 255, 255, true},
		rgb + 65536: {1, 0, 0, true}, rgb + 0x123456: {0x12, 0x34, 0x56, true}, lastRgb - 1: {255, 255, 254, true}, lastRgb: {255, 255, 255, true},
	} {
		if p := partsOf(c); p != want {
			t.Error("the parts of", c, "are", p, "and not", want)
		}
	}
}

func TestPartsOfNone(t *testing.T) {
	for _, c := range strange() {
		if p := partsOf(c); p != (parts{}) {
			t.Error("the parts of", c, "are", p)
		}
	}
}

func TestPartsOfMany(t *testing.T) {
	m := newModel()
	for high := range 256 {
		for low := range 1 << 10 {
			for _, n := range []int{low, rgb - 1 - low, low << 14, low<<14 + 0x3FFF} {
				c := api.Color(high*rgb + n)
				if p := partsOf(c); p != m.parts(c) {
					t.Fatal("the parts of", c, "are", p, "and not", m.parts(c))
				}
			}
		}
	}
}

func TestPartsOfAllOfThree(t *testing.T) {
	for r := range 256 {
		for g := range 256 {
			for b := range 256 {
				if p := partsOf(of(r, g, b)); p != (parts{r, g, b, true}) {
					t.Fatal("the parts of", r, g, b, "are", p)
				}
			}
		}
	}
}

// P13.1: Far

func TestFar(t *testing.T) {
	for _, x := range []struct {
		x, y api.Color
		want int
	}{
		{1, 1, 0}, {256, 256, 0}, {rgb, rgb, 0}, {lastRgb, lastRgb, 0}, {of(1, 2, 3), of(1, 2, 3), 0},
		{1, 17, 0}, {1, rgb, 0}, {16, 232, 0}, {232, lastRgb, 0}, {256, of(238, 238, 238), 0},
		{1, 2, 42025}, {1, 3, 42025}, {1, 4, 84050}, {1, 5, 56644}, {1, 16, 195075}, {rgb, lastRgb, 195075}, {17, 232, 195075}, {2, 10, 2500},
		{rgb, rgb + 1, 1}, {rgb, rgb + 256, 1}, {rgb, rgb + 65536, 1}, {of(1, 2, 3), of(4, 6, 8), 50}, {of(9, 0, 5), of(4, 7, 6), 75},
		{of(10, 20, 30), of(13, 16, 42), 169}, {233, 234, 300}, {256, 232, 867}, {22, 5, 289}, {13, rgb, 81953},
	} {
		if far := color.Far(x.x, x.y); far != x.want {
			t.Error("from", x.x, "to", x.y, "it is", far, "and not", x.want)
		}
		if far := color.Far(x.y, x.x); far != x.want {
			t.Error("from", x.y, "to", x.x, "it is", far, "and not", x.want)
		}
	}
}

func TestFarOfNone(t *testing.T) {
	for _, c := range strange() {
		for _, x := range []api.Color{1, 16, 17, 232, 233, 256, rgb, rgb + 255, lastRgb} {
			if color.Far(c, x) != -1 || color.Far(x, c) != -1 {
				t.Error("from", c, "to", x, "it is", color.Far(c, x), "and back", color.Far(x, c))
			}
		}
		for _, x := range strange() {
			if far := color.Far(c, x); far != -1 {
				t.Error("from", c, "to", x, "it is", far)
			}
		}
	}
}

func TestFarOfAll(t *testing.T) {
	m := newModel()
	for _, x := range colours() {
		for _, y := range colours() {
			if far := color.Far(x, y); far != m.far(x, y) {
				t.Fatal("from", x, "to", y, "it is", far, "and not", m.far(x, y))
			}
		}
	}
}

// P13.1: To256 and To16

func TestTo256(t *testing.T) {
	for c, want := range map[api.Color]api.Color{
		of(0, 0, 0): 16 + 1, of(255, 255, 255): 231 + 1, of(0, 0, 255): 21 + 1, of(255, 0, 0): 196 + 1, of(0, 255, 0): 46 + 1,
		of(8, 8, 8): 232 + 1, of(238, 238, 238): 255 + 1, of(128, 128, 128): 244 + 1, of(127, 127, 127): 244 + 1, of(229, 229, 229): 254 + 1,
		of(205, 0, 0): 160 + 1, of(92, 92, 255): 63 + 1, of(1, 2, 3): 16 + 1, of(5, 5, 5): 232 + 1,
		of(95, 95, 95): 59 + 1, of(96, 96, 96): 59 + 1, of(97, 97, 97): 241 + 1, of(98, 98, 98): 241 + 1,
		of(246, 246, 246): 255 + 1, of(247, 247, 247): 231 + 1, of(47, 255, 255): 51 + 1, of(48, 255, 255): 87 + 1, of(47, 0, 0): 233 + 1,
		// As near to two, or to more: of the cube, of the greys, of both.
		of(115, 0, 0): 52 + 1, of(0, 115, 0): 22 + 1, of(0, 0, 115): 17 + 1, of(115, 0, 115): 53 + 1, of(235, 0, 0): 160 + 1, of(0, 155, 255): 33 + 1,
		of(13, 13, 13): 232 + 1, of(123, 123, 123): 243 + 1, of(233, 233, 233): 254 + 1,
		of(4, 4, 4): 16 + 1, of(8, 4, 0): 16 + 1, of(0, 4, 8): 16 + 1,
	} {
		if got := color.To256(c); got != want {
			t.Error("To256 of", partsOf(c), "is", got, "and not", want)
		}
	}
}

func TestTo16(t *testing.T) {
	for c, want := range map[api.Color]api.Color{
		of(0, 0, 0): 0 + 1, of(255, 255, 255): 15 + 1, of(0, 0, 255): 4 + 1, of(0, 0, 238): 4 + 1, of(255, 0, 0): 9 + 1, of(205, 0, 0): 1 + 1,
		of(128, 128, 128): 8 + 1, of(228, 228, 228): 7 + 1, of(90, 90, 250): 12 + 1, of(102, 0, 0): 0 + 1, of(103, 0, 0): 1 + 1,
		of(63, 63, 63): 0 + 1, of(64, 64, 64): 8 + 1,
		16 + 1: 0 + 1, 21 + 1: 4 + 1, 46 + 1: 10 + 1, 196 + 1: 9 + 1, 160 + 1: 1 + 1, 231 + 1: 15 + 1, 232 + 1: 0 + 1, 255 + 1: 7 + 1, 244 + 1: 8 + 1, 63 + 1: 12 + 1,
		// As near to two: the first or the second of them is dark.
		of(230, 0, 0): 1 + 1, of(0, 230, 0): 2 + 1, of(230, 230, 0): 3 + 1, of(0, 0, 119): 0 + 1, of(178, 178, 178): 7 + 1, of(242, 242, 242): 7 + 1, of(230, 0, 230): 5 + 1,
	} {
		if got := color.To16(c); got != want {
			t.Error("To16 of", c, "is", got, "and not", want)
		}
	}
}

// A colour whose parts are those of one that may be picked is that one; of several the first.
func TestTheirs(t *testing.T) {
	for i, p := range palette() {
		c := of(p.r, p.g, p.b)
		if i < 16 {
			if got := color.To16(c); got != api.Color(i+1) {
				t.Error("To16 of the parts of", i, "is", got)
			}
			continue
		}
		if got := color.To256(c); got != api.Color(i+1) {
			t.Error("To256 of the parts of", i, "is", got)
		}
	}
}

func TestAsTheyAre(t *testing.T) {
	stay := strange()
	for c := range api.Color(257) {
		if got := color.To256(c); got != c {
			t.Error("To256 of", c, "is", got)
		}
		if c <= 16 {
			stay = append(stay, c)
		}
	}
	for _, c := range stay {
		if color.To256(c) != c || color.To16(c) != c {
			t.Error(c, "became", color.To256(c), "and", color.To16(c))
		}
		for _, f := range features() {
			if got := color.Fit(c, f); got != c {
				t.Error("Fit of", c, "by", f, "is", got)
			}
		}
	}
}

// P13.1, P13.2: what is picked is of the row, none of it is nearer, and no lesser one as near.

// picked holds a colour that was picked of those from first to last against all of them.
func (m model) picked(t *testing.T, c, got, first, last api.Color) {
	t.Helper()
	if got < first || got > last {
		t.Fatal("of", c, "was made", got)
	}
	least := m.far(c, got)
	for x := first; x <= last; x++ {
		if far := m.far(c, x); far < least || far == least && x < got {
			t.Fatal("of", c, "was made", got, "but there is", x)
		}
	}
}

func TestNearest(t *testing.T) {
	m := newModel()
	for _, c := range many() {
		m.picked(t, c, color.To256(c), 17, 256)
		m.picked(t, c, color.To16(c), 1, 16)
	}
	for c := api.Color(17); c <= 256; c++ {
		m.picked(t, c, color.To16(c), 1, 16)
	}
}

// The same by what Far itself tells.
func TestNearestByFar(t *testing.T) {
	roll := rolls(132)
	for range 2000 {
		c := api.Color(rgb + roll(rgb))
		for x := api.Color(1); x <= 256; x++ {
			far := color.Far(c, x)
			if x <= 16 && far < color.Far(c, color.To16(c)) || x > 16 && far < color.Far(c, color.To256(c)) {
				t.Fatal(x, "is nearer to", c)
			}
		}
	}
}

// P13.1: Fit

func TestFit(t *testing.T) {
	for _, x := range []struct {
		c    api.Color
		want [4]api.Color // without both, with FColor, with FTrue, with both
	}{
		{0, [4]api.Color{0, 0, 0, 0}},
		{1, [4]api.Color{1, 1, 1, 1}},
		{16, [4]api.Color{16, 16, 16, 16}},
		{17, [4]api.Color{1, 17, 1, 17}},
		{22, [4]api.Color{5, 22, 5, 22}},
		{256, [4]api.Color{8, 256, 8, 256}},
		{257, [4]api.Color{257, 257, 257, 257}},
		{rgb - 1, [4]api.Color{rgb - 1, rgb - 1, rgb - 1, rgb - 1}},
		{rgb, [4]api.Color{1, 17, rgb, rgb}},
		{rgb + 255, [4]api.Color{5, 22, rgb + 255, rgb + 255}},
		{lastRgb, [4]api.Color{16, 232, lastRgb, lastRgb}},
		{lastRgb + 1, [4]api.Color{lastRgb + 1, lastRgb + 1, lastRgb + 1, lastRgb + 1}},
		{math.MaxUint32, [4]api.Color{math.MaxUint32, math.MaxUint32, math.MaxUint32, math.MaxUint32}},
	} {
		for f, want := range x.want {
			if got := color.Fit(x.c, uint32(f)); got != want {
				t.Error("Fit of", x.c, "by", f, "is", got, "and not", want)
			}
			if got := color.Fit(x.c, uint32(f)+others); got != want {
				t.Error("Fit of", x.c, "by", f, "and all others is", got, "and not", want)
			}
		}
	}
}

func TestFitOfAll(t *testing.T) {
	m := newModel()
	for _, c := range colours() {
		for _, f := range features() {
			if got, want := color.Fit(c, f), m.fit(c, f); got != want {
				t.Fatal("Fit of", c, "by", f, "is", got, "and not", want)
			}
		}
	}
}

// P13.1, R1: any numbers as colours and as features.
func TestAny(t *testing.T) {
	m := newModel()
	roll := rolls(131)
	any32 := func() uint32 { return uint32(roll(1<<16))<<uint(roll(17)) + uint32(roll(1<<16)) }
	for range 20000 {
		x, y, f := api.Color(any32()), api.Color(any32()), any32()
		if roll(2) == 0 {
			x = x%(2*rgb) | rgb
		}
		if roll(3) == 0 {
			y %= 300
		}
		for _, c := range []api.Color{x, y} {
			if partsOf(c) != m.parts(c) || color.To256(c) != m.to256(c) || color.To16(c) != m.to16(c) || color.Fit(c, f) != m.fit(c, f) {
				t.Fatal("of", c, "by", f, "was told", partsOf(c), color.To256(c), color.To16(c), color.Fit(c, f))
			}
		}
		if color.Far(x, y) != m.far(x, y) || color.Far(y, x) != m.far(x, y) {
			t.Fatal("from", x, "to", y, "it is", color.Far(x, y), "and back", color.Far(y, x))
		}
	}
}

// P13.3

func TestOnceIsEnough(t *testing.T) {
	roll := rolls(133)
	l := colours()
	for range 2000 {
		l = append(l, api.Color(rgb+roll(rgb)))
	}
	for _, c := range l {
		if a, b := color.To256(c), color.To16(c); color.To256(a) != a || color.To16(b) != b || color.To256(b) != b {
			t.Fatal("of", c, "was made", a, b, "and then", color.To256(a), color.To16(b), color.To256(b))
		}
		for own := range uint32(4) {
			once := color.Fit(c, own)
			for more := range uint32(4) {
				if again := color.Fit(once, own|more); again != once {
					t.Fatal("of", c, "Fit by", own, "made", once, "and by", own|more, again)
				}
				if again := color.Fit(once, own|more|others); again != once {
					t.Fatal("of", c, "Fit by", own, "made", once, "and by", own|more, "and all others", again)
				}
			}
		}
	}
}

// R2

// told is what each call answers of a colour and features.
type told struct {
	parts         parts
	far           int
	to256, to16   api.Color
	fit, fitOther api.Color
}

// each makes every call.
func each(c api.Color, f uint32) told {
	return told{partsOf(c), color.Far(c, 5), color.To256(c), color.To16(c), color.Fit(c, f), color.Fit(c, ^f)}
}

func TestSameAgain(t *testing.T) {
	l := colours()
	want := map[api.Color]told{}
	for _, c := range l {
		want[c] = each(c, uint32(c))
	}
	var all sync.WaitGroup
	differ := make([]int, 8)
	for i := range differ {
		all.Go(func() {
			for range 4 {
				for j := range l {
					// Each goroutine asks in an order of its own.
					c := l[(j*(2*i+1)+i)%len(l)]
					if each(c, uint32(c)) != want[c] {
						differ[i]++
					}
				}
			}
		})
	}
	all.Wait()
	for i, n := range differ {
		if n != 0 {
			t.Error(n, "answers to goroutine", i, "differ")
		}
	}
}
