package emul

import "spyglass/api"

// The numbers of m by which a pen's colours are set.
const (
	firstFg, firstBg   = 30, 40  // the first of those that mean the colours 0 to 7
	brightFg, brightBg = 90, 100 // the first of those that mean the colours 8 to 15
	ownFg, ownBg       = 38, 48  // those behind which others tell the colour
	noFg, noBg         = 39, 49
)

const (
	// colorsOfStretch is how many colours a stretch of numbers means.
	colorsOfStretch = 8
	// maxPart is the greatest colour of 256, and the greatest part of a colour of three.
	maxPart = 255
)

// look sets the pen, number by number.
func (t *Term) look(numbers ...int) {
	if len(numbers) == 0 {
		numbers = []int{0}
	}
	for i := 0; i < len(numbers); i++ {
		n := numbers[i]
		if n != ownFg && n != ownBg {
			t.pen = looking(t.pen, n)
			continue
		}
		c, taken := ownColor(numbers[i+1:])
		if taken == 0 {
			return
		}
		i += taken
		if n == ownFg {
			t.pen.Fg = c
		} else {
			t.pen.Bg = c
		}
	}
}

// looking is a pen behind one number, which needs no further ones.
func looking(p api.Pen, n int) api.Pen {
	switch {
	case n == 0:
		return api.Pen{Link: p.Link}
	case n < 10:
		p.Attrs |= attr(n)
	case n == 22:
		p.Attrs &^= api.Bold | api.Faint
	case n > 22 && n < 30:
		p.Attrs &^= attr(n - 20)
	case n == noFg:
		p.Fg = 0
	case n == noBg:
		p.Bg = 0
	}
	if c, ok := color(n, firstFg, brightFg); ok {
		p.Fg = c
	}
	if c, ok := color(n, firstBg, brightBg); ok {
		p.Bg = c
	}
	return p
}

// attr answers the bit of how letters look that a number sets; 0, if there is none.
func attr(n int) uint8 {
	switch n {
	case 1:
		return api.Bold
	case 2:
		return api.Faint
	case 3:
		return api.Italic
	case 4:
		return api.Under
	case 5:
		return api.Blink
	case 7:
		return api.Inverse
	case 8:
		return api.Hidden
	case 9:
		return api.Strike
	}
	return 0
}

// color answers which of the first sixteen colours a number means, if those from first on mean the first eight of them, and those from bright on the other ones.
func color(n, first, bright int) (api.Color, bool) {
	switch {
	case n >= first && n < first+colorsOfStretch:
		return indexed(n - first), true
	case n >= bright && n < bright+colorsOfStretch:
		return indexed(n - bright + colorsOfStretch), true
	}
	return 0, false
}

// ownColor answers the colour that the numbers behind 38 and 48 tell, and how many tell it; none, if they tell no colour.
func ownColor(numbers []int) (c api.Color, taken int) {
	const parts = 3
	switch kind := at(numbers, 0); {
	case kind == 5 && len(numbers) > 1 && numbers[1] <= maxPart:
		return indexed(numbers[1]), 2
	case kind == 2 && len(numbers) > parts:
		c = api.Rgb
		for i, n := range numbers[1 : 1+parts] {
			if n > maxPart {
				return 0, 0
			}
			c += api.Color(n) << (8 * (parts - 1 - i))
		}
		return c, 1 + parts
	}
	return 0, 0
}

// indexed is the colour i of 256.
func indexed(i int) api.Color { return api.Color(i + 1) }
