package guard_test

import (
	"math"
	"slices"
	"strconv"
	"sync"
	"testing"

	"spyglass/api"
	"spyglass/guard"
)

// most is the greatest number that may be taken.
const most = 1 << 62

// rolls answers numbers that look like none in particular, the same ones each time.
func rolls(seed uint64) func(below int) int {
	return func(below int) int {
		seed = seed*6364136223846793005 + 1442695040888963407
		return int((seed >> 33) % uint64(below))
	}
}

// edges are numbers at which something begins or ends, and some between.
func edges() []uint64 {
	l := []uint64{0, 1, 2, 7, 62, 63, 64, 65, 66, 70, 126, 127, 128, 129, 191, 192, 193, 1000}
	for _, bit := range []int{16, 31, 32, 33, 61} {
		l = append(l, 1<<bit-1, 1<<bit, 1<<bit+1)
	}
	return append(l, most-65, most-64, most-63, most-2, most-1, most)
}

// steps are how far a number may be above another.
func steps() []uint64 {
	var l []uint64
	for n := uint64(1); n <= 130; n++ {
		l = append(l, n)
	}
	for bit := 8; bit < 62; bit++ {
		l = append(l, 1<<bit-1, 1<<bit, 1<<bit+1)
	}
	return l
}

// tooGreat are numbers that are none.
func tooGreat() []uint64 {
	return []uint64{most + 1, most + 2, most + 63, most + 64, most + 65, most + most/2, 1<<63 - 1, 1 << 63, 1<<63 + 1, math.MaxUint64 - 64, math.MaxUint64 - 1, math.MaxUint64}
}

// taker keeps each number that was taken, and so knows what a guard has to answer.
type taker struct {
	taken map[uint64]bool
	top   uint64
}

func newTaker() *taker { return &taker{taken: map[uint64]bool{}} }

func (k *taker) check(n uint64) api.Errno {
	switch {
	case n > most:
		return api.ErrArg
	case k.taken[n]:
		return api.ErrReplay
	case len(k.taken) > 0 && k.top >= 64 && n <= k.top-64:
		return api.ErrReplay
	}
	return api.OK
}

func (k *taker) take(n uint64) api.Errno {
	e := k.check(n)
	if e == api.OK {
		k.taken[n] = true
		k.top = max(k.top, n)
	}
	return e
}

// pair is a guard, and beside it what it has to answer.
type pair struct {
	t    *testing.T
	name string
	g    *guard.Guard
	k    *taker
}

func newPair(t *testing.T, name string) *pair { return &pair{t, name, guard.New(), newTaker()} }

// topHolds fails, if Top isn't the greatest number that was taken.
func (p *pair) topHolds() {
	p.t.Helper()
	if top, ok := p.g.Top(); top != p.k.top || ok != (len(p.k.taken) > 0) {
		p.t.Fatalf("%s: Top is %d, %t, not %d, %t", p.name, top, ok, p.k.top, len(p.k.taken) > 0)
	}
}

func (p *pair) check(n uint64) {
	p.t.Helper()
	if got, want := p.g.Check(n), p.k.check(n); got != want {
		p.t.Fatalf("%s: Check(%d) below %d: %d, not %d", p.name, n, p.k.top, got, want)
	}
	p.topHolds()
}

func (p *pair) take(n uint64) {
	p.t.Helper()
	was := p.k.top
	if got, want := p.g.Take(n), p.k.take(n); got != want {
		p.t.Fatalf("%s: Take(%d) below %d: %d, not %d", p.name, n, was, got, want)
	}
	p.topHolds()
}

// checkAround checks the numbers near n, some of which may be none.
func (p *pair) checkAround(n uint64) {
	p.t.Helper()
	for by := uint64(0); by <= 66; by++ {
		p.check(n + by)
		if by <= n {
			p.check(n - by)
		}
	}
}

// P5.1

// call is one of a guard's, and what it answers: Take, or (look) Check. Behind it Top is top; there is none, as long as nothing was taken.
type call struct {
	look bool
	n    uint64
	want api.Errno
	top  uint64
}

func look(n uint64, want api.Errno, top uint64) call { return call{true, n, want, top} }
func take(n uint64, want api.Errno, top uint64) call { return call{false, n, want, top} }

func TestRowsOfCalls(t *testing.T) {
	const ok, arg, replay = api.OK, api.ErrArg, api.ErrReplay
	for name, row := range map[string][]call{
		"the chapter's example": {take(70, ok, 70), take(70, replay, 70), take(7, ok, 70), take(6, replay, 70), take(71, ok, 71), look(7, replay, 71)},
		"0 first":               {look(0, ok, 0), look(0, ok, 0), take(0, ok, 0), look(0, replay, 0), take(0, replay, 0), take(1, ok, 1), take(0, replay, 1)},
		"0 behind 1":            {take(1, ok, 1), look(0, ok, 1), take(0, ok, 1), take(0, replay, 1), take(1, replay, 1)},
		"0 below 63":            {take(63, ok, 63), look(0, ok, 63), take(0, ok, 63), look(0, replay, 63)},
		"0 below 64":            {take(64, ok, 64), look(0, replay, 64), take(0, replay, 64), take(1, ok, 64), take(1, replay, 64)},
		"0 below 65":            {take(65, ok, 65), look(0, replay, 65), look(1, replay, 65), look(2, ok, 65), take(2, ok, 65)},
		"one after the other":   {take(0, ok, 0), take(1, ok, 1), take(2, ok, 2), take(3, ok, 3), take(2, replay, 3), take(0, replay, 3)},
		"downward":              {take(3, ok, 3), take(2, ok, 3), take(1, ok, 3), take(0, ok, 3), take(3, replay, 3), take(1, replay, 3)},
		"a step of 1":           {take(100, ok, 100), take(101, ok, 101), look(100, replay, 101), look(99, ok, 101), look(38, ok, 101), look(37, replay, 101)},
		"a step of 63":          {take(100, ok, 100), take(163, ok, 163), look(100, replay, 163), look(101, ok, 163), look(99, replay, 163)},
		"a step of 64":          {take(100, ok, 100), take(164, ok, 164), look(100, replay, 164), look(101, ok, 164), take(101, ok, 164), look(101, replay, 164)},
		"a step of 65":          {take(100, ok, 100), take(165, ok, 165), look(100, replay, 165), look(101, replay, 165), look(102, ok, 165)},
		"a step of 128":         {take(100, ok, 100), take(228, ok, 228), look(164, replay, 228), look(165, ok, 228), look(227, ok, 228)},
		"to the greatest one":   {take(0, ok, 0), take(most, ok, most), look(0, replay, most), take(most, replay, most), take(most-63, ok, most), look(most-64, replay, most)},
		"the greatest one":      {look(most, ok, 0), take(most, ok, most), take(most, replay, most), take(most+1, arg, most), take(most-1, ok, most)},
		"above it first":        {look(most+1, arg, 0), take(most+1, arg, 0), look(math.MaxUint64, arg, 0), take(math.MaxUint64, arg, 0), take(5, ok, 5)},
		"above it between":      {take(5, ok, 5), take(most+1, arg, 5), take(1<<63+5, arg, 5), take(math.MaxUint64, arg, 5), take(6, ok, 6), look(5, replay, 6)},
		"refused, then checked": {take(100, ok, 100), take(36, replay, 100), look(36, replay, 100), take(37, ok, 100), take(37, replay, 100), look(37, replay, 100)},
		"checked, then taken":   {take(100, ok, 100), look(90, ok, 100), look(90, ok, 100), look(200, ok, 100), take(90, ok, 100), look(37, ok, 100), take(200, ok, 200), look(199, ok, 200)},
	} {
		g := guard.New()
		took := false
		for at, c := range row {
			do, told := g.Take, "Take"
			if c.look {
				do, told = g.Check, "Check"
			}
			if got := do(c.n); got != c.want {
				t.Errorf("%s, call %d: %s(%d): %d, not %d", name, at, told, c.n, got, c.want)
			}
			took = took || !c.look && c.want == ok
			if top, is := g.Top(); top != c.top || is != took {
				t.Errorf("%s, call %d: Top is %d, %t, not %d, %t", name, at, top, is, c.top, took)
			}
		}
	}
}

func TestANewGuardKnowsOfNone(t *testing.T) {
	for _, n := range edges() {
		g := guard.New()
		if top, ok := g.Top(); top != 0 || ok {
			t.Errorf("Top is %d, %t", top, ok)
		}
		if e := g.Check(n); e != api.OK {
			t.Errorf("Check(%d): %d", n, e)
		}
		if top, ok := g.Top(); top != 0 || ok {
			t.Errorf("behind Check(%d) Top is %d, %t", n, top, ok)
		}
		if e := g.Take(n); e != api.OK {
			t.Errorf("Take(%d): %d", n, e)
		}
		if top, ok := g.Top(); top != n || !ok {
			t.Errorf("behind Take(%d) Top is %d, %t", n, top, ok)
		}
	}
}

func TestWhatIsBelowTheFirstNumber(t *testing.T) {
	for _, first := range edges() {
		p := newPair(t, "one number")
		p.take(first)
		p.checkAround(first)
		for _, n := range edges() {
			p.check(n)
		}
		for below := uint64(0); below <= 200 && below <= first; below++ {
			want := api.OK
			if below == 0 || below >= 64 {
				want = api.ErrReplay
			}
			if got := p.g.Check(first - below); got != want {
				t.Errorf("%d taken: Check of what is %d below: %d, not %d", first, below, got, want)
			}
		}
	}
}

// windows are what may be taken already below a number that was: a bit for each number, the lowest for the next one.
func windows() map[string]uint64 {
	l := map[string]uint64{"none": 0, "all": 1<<63 - 1, "each second": 0x2aaaaaaaaaaaaaaa, "each other second": 0x5555555555555555}
	for _, bit := range []int{0, 31, 62} {
		l["only bit "+strconv.Itoa(bit)] = 1 << bit
		l["all but bit "+strconv.Itoa(bit)] = (1<<63 - 1) &^ (1 << bit)
	}
	return l
}

// pairOf answers a pair that took top, and below it what the window says.
func pairOf(t *testing.T, name string, top, window uint64) *pair {
	p := newPair(t, name)
	for below := uint64(63); below > 0; below-- {
		if window>>(below-1)&1 == 1 {
			p.take(top - below)
		}
	}
	p.take(top)
	return p
}

func TestAnyWindow(t *testing.T) {
	for name, window := range windows() {
		for _, top := range []uint64{63, 64, 65, 128, 1000, 1 << 32, most - 1, most} {
			p := pairOf(t, name, top, window)
			p.checkAround(top)
			for below := uint64(0); below < 64; below++ {
				p.take(top - below)
				p.take(top - below)
			}
			p.checkAround(top)
		}
	}
}

func TestAnyStepForward(t *testing.T) {
	for name, window := range windows() {
		for _, step := range steps() {
			for _, from := range []uint64{63, 1000} {
				p := pairOf(t, name, from, window)
				p.take(from + step)
				p.checkAround(from)
				p.checkAround(from + step)
				p.take(from)
				p.take(from + step)
				p.take(from + step - 1)
			}
		}
	}
}

func TestStepsToTheGreatestNumber(t *testing.T) {
	for name, window := range windows() {
		for _, step := range steps() {
			if step > most-63 {
				continue
			}
			p := pairOf(t, name, most-step, window)
			p.take(most)
			p.checkAround(most - step)
			p.checkAround(most)
			p.take(most + 1)
			p.take(most)
			p.take(most - 64)
			p.take(most - 63)
			p.checkAround(most)
		}
	}
}

func TestManyStepsForward(t *testing.T) {
	for _, step := range []uint64{1, 2, 3, 7, 31, 32, 33, 62, 63, 64, 65, 66, 127, 128, 129, 1 << 32, 1 << 54} {
		p := newPair(t, "steps of "+strconv.FormatUint(step, 10))
		for n := range uint64(200) {
			p.take(n * step)
			p.check(n * step)
			p.take(n*step + 2)
			p.checkAround(n * step)
		}
	}
}

func TestNumbersAboveTheGreatestAreNone(t *testing.T) {
	for _, n := range tooGreat() {
		p := newPair(t, "above")
		p.check(n)
		p.take(n)
		p.check(0)
		for name, window := range windows() {
			for _, top := range []uint64{63, 1000, n - 1<<63, n % 1000000, most} {
				if top < 63 || top > most {
					continue
				}
				p := pairOf(t, name, top, window)
				for _, do := range []func(uint64) api.Errno{p.g.Check, p.g.Take, p.g.Check, p.g.Take} {
					if e := do(n); e != api.ErrArg {
						t.Errorf("%d: error %d, not %d", n, e, api.ErrArg)
					}
				}
				p.checkAround(top)
			}
		}
	}
}

func TestEachShortRow(t *testing.T) {
	numbers := []uint64{0, 1, 2, 62, 63, 64, 65, 127, 128, 129, most, most + 1}
	for first := range numbers {
		for second := range numbers {
			for third := range numbers {
				for fourth := range numbers {
					p := newPair(t, "a short row")
					for _, at := range []int{first, second, third, fourth} {
						p.take(numbers[at])
						p.check(numbers[at])
					}
					for _, n := range numbers {
						p.check(n)
					}
				}
			}
		}
	}
}

// near answers a number that isn't far from one that was the greatest, most times.
func near(roll func(int) int, top uint64) uint64 {
	by := uint64(roll(140))
	switch roll(12) {
	case 0:
		return edges()[roll(len(edges()))]
	case 1:
		return tooGreat()[roll(len(tooGreat()))]
	case 2:
		return top + steps()[roll(len(steps()))]
	case 3, 4, 5:
		return top + by%4
	}
	return top - min(by, top)
}

func TestAnyRows(t *testing.T) {
	roll := rolls(1)
	for range 3000 {
		p := newPair(t, "any row")
		for range 1 + roll(150) {
			n := near(roll, p.k.top)
			if roll(3) == 0 {
				p.check(n)
			} else {
				p.take(n)
			}
		}
		p.checkAround(p.k.top)
	}
}

func TestALongRow(t *testing.T) {
	roll := rolls(2)
	p := newPair(t, "a long row")
	for at := range 100000 {
		p.take(uint64(at + roll(130)))
		p.check(uint64(at + roll(130)))
	}
}

func TestCheckBetweenTakingsChangesNothing(t *testing.T) {
	roll := rolls(3)
	for range 500 {
		bare, asked := guard.New(), guard.New()
		top := uint64(0)
		for range 100 {
			n := near(roll, top)
			for range roll(4) {
				other := near(roll, top)
				if first, again := asked.Check(other), asked.Check(other); first != again {
					t.Fatalf("Check(%d) below %d: %d, and %d again", other, top, first, again)
				}
			}
			may := asked.Check(n)
			want, got := bare.Take(n), asked.Take(n)
			if got != want || may != want {
				t.Fatalf("Take(%d) below %d: %d, checked ahead %d, not %d", n, top, got, may, want)
			}
			bareTop, bareOK := bare.Top()
			askedTop, askedOK := asked.Top()
			if bareTop != askedTop || bareOK != askedOK {
				t.Fatalf("Top behind %d: %d, %t, not %d, %t", n, askedTop, askedOK, bareTop, bareOK)
			}
			top = bareTop
		}
	}
}

// R6

func TestWhatWasRefusedChangesNothing(t *testing.T) {
	for name, window := range windows() {
		for _, top := range []uint64{64, 200, 1 << 40, most} {
			p := pairOf(t, name, top, window)
			for _, n := range slices.Concat(edges(), tooGreat()) {
				if p.k.check(n) != api.OK {
					p.take(n)
					p.take(n)
				}
			}
			for below := uint64(0); below <= 130 && below <= top; below++ {
				if p.k.check(top-below) != api.OK {
					p.take(top - below)
				}
			}
			p.checkAround(top)
			for below := uint64(1); below < 64; below++ {
				p.take(top - below)
			}
		}
	}
}

// P5.2

// counted takes a row, and answers how often each number was taken.
// Fails, if one that comes first isn't taken, while it is less than 64 below the greatest one.
func counted(t *testing.T, row []uint64) map[uint64]int {
	t.Helper()
	g := guard.New()
	came, taken := map[uint64]bool{}, map[uint64]int{}
	for at, n := range row {
		top, ok := g.Top()
		e := g.Take(n)
		must := n <= most && (!ok || n > top || top-n < 64)
		if must && !came[n] && e != api.OK {
			t.Fatalf("number %d of the row, %d below %d, comes first: %d", at, n, top, e)
		}
		if e == api.OK {
			taken[n]++
		}
		came[n] = true
	}
	return taken
}

// onceEach fails, if not each number of a row was taken, and once.
func onceEach(t *testing.T, row []uint64) {
	t.Helper()
	taken := counted(t, row)
	for _, n := range row {
		if taken[n] != 1 {
			t.Fatalf("%d was taken %d times", n, taken[n])
		}
	}
}

// orders calls do with each order of the row from the place at on.
func orders(row []uint64, at int, do func([]uint64)) {
	if at == len(row) {
		do(row)
	}
	for with := at; with < len(row); with++ {
		row[at], row[with] = row[with], row[at]
		orders(row, at+1, do)
		row[at], row[with] = row[with], row[at]
	}
}

func TestEachOrderOfNumbersNearOneAnother(t *testing.T) {
	for _, row := range [][]uint64{{0, 1, 2, 3, 4, 5}, {0, 1, 31, 32, 62, 63}, {most - 63, most - 62, most - 32, most - 31, most - 1, most}, {0, 0, 1, 63, 63, 5}} {
		orders(row, 0, func(row []uint64) { onceEach(t, row) })
	}
}

func TestEachOrderOfNumbersFarFromOneAnother(t *testing.T) {
	orders([]uint64{0, 1, 63, 64, 65, 128, 129}, 0, func(row []uint64) {
		for n, times := range counted(t, row) {
			if times > 1 {
				t.Fatalf("%d was taken %d times", n, times)
			}
		}
	})
}

// mixed answers the numbers from first on, of each 64 in any order, so that none comes too late.
func mixed(roll func(int) int, first uint64, count int) []uint64 {
	var row []uint64
	for from := 0; from < count; from += 64 {
		part := make([]uint64, 64)
		for at := range part {
			part[at] = first + uint64(from+at)
		}
		for at := range part {
			with := roll(len(part))
			part[at], part[with] = part[with], part[at]
		}
		row = append(row, part...)
	}
	return row
}

func TestWhatIsLateIsTakenOnce(t *testing.T) {
	roll := rolls(4)
	for _, first := range []uint64{0, 1, 60, 64, 1000, 1<<32 - 100, most - 1023} {
		for range 20 {
			row := mixed(roll, first, 1024)
			onceEach(t, row)
			onceEach(t, slices.Concat(row, row))
			doubled := make([]uint64, 0, 2*len(row))
			for at, n := range row {
				doubled = append(doubled, n, row[roll(at+1)])
			}
			onceEach(t, doubled)
		}
	}
}

func TestNoNumberIsTakenTwiceWhateverComes(t *testing.T) {
	roll := rolls(5)
	for range 500 {
		spread := 1 + roll(400)
		first := []uint64{0, 50, 1 << 40, most - 600}[roll(4)]
		row := make([]uint64, 600)
		for at := range row {
			row[at] = first + uint64(at*(1+roll(3))/3+roll(spread))
		}
		for n, times := range counted(t, row) {
			if times > 1 || n > most {
				t.Fatalf("%d was taken %d times", n, times)
			}
		}
	}
}

// R1

func TestANilGuard(t *testing.T) {
	var g *guard.Guard
	for _, n := range slices.Concat(edges(), tooGreat()) {
		for range 2 {
			if e := g.Check(n); e != api.ErrArg {
				t.Errorf("Check(%d): %d", n, e)
			}
			if e := g.Take(n); e != api.ErrArg {
				t.Errorf("Take(%d): %d", n, e)
			}
			if top, ok := g.Top(); top != 0 || ok {
				t.Errorf("Top is %d, %t", top, ok)
			}
		}
	}
}

// R2

func TestGuardsKnowNothingOfOneAnother(t *testing.T) {
	roll := rolls(6)
	for range 300 {
		one, other := newPair(t, "one"), newPair(t, "the other")
		for range 100 {
			one.take(near(roll, one.k.top))
			other.take(near(roll, one.k.top))
			one.check(near(roll, other.k.top))
			other.check(near(roll, other.k.top))
		}
		newPair(t, "a third").checkAround(one.k.top)
	}
}

func TestManyGuardsAtOnce(t *testing.T) {
	var all sync.WaitGroup
	for n := range uint64(8) {
		all.Go(func() {
			g, k := guard.New(), newTaker()
			roll := rolls(n)
			for at := range 5000 {
				came := uint64(at + roll(100))
				if got, want := g.Take(came), k.take(came); got != want {
					t.Errorf("Take(%d) below %d: %d, not %d", came, k.top, got, want)
				}
			}
		})
	}
	all.Wait()
}

func TestTheSameRowHasTheSameAnswers(t *testing.T) {
	row := mixed(rolls(7), 5, 512)
	row = append(row, edges()...)
	row = append(row, tooGreat()...)
	answers := func() []api.Errno {
		g := guard.New()
		var l []api.Errno
		for _, n := range row {
			l = append(l, g.Check(n), g.Take(n))
		}
		return l
	}
	first := answers()
	for range 5 {
		if !slices.Equal(answers(), first) {
			t.Fatal("other answers the second time")
		}
	}
}
