package feat_test

import (
	"math"
	"sync"
	"testing"

	"spyglass/api"
	"spyglass/feat"
)

// The features, as the chapter tells them, and all bits that no feature has.
const (
	fColor, fTrue, fWide, fLink, fTitle, fMouse = 1, 2, 4, 8, 16, 32
	fAll                                        = 63
	strange                                     = math.MaxUint32 - fAll
)

// had are the features and the first version that can have each.
func had() []struct {
	feature uint32
	from    int
} {
	return []struct {
		feature uint32
		from    int
	}{{fColor, 1}, {fTitle, 1}, {fTrue, 2}, {fMouse, 2}, {fWide, 3}, {fLink, 3}}
}

// noVersions are numbers that are no version's.
func noVersions() []int {
	return []int{0, 4, 5, 7, -1, -2, -3, -4, 63, 64, 255, 256, 257, 258, 259, 65537, 1<<32 + 1, 1<<32 + 2, 1<<32 + 3, -1<<32 + 1, 1<<62 + 3, math.MinInt32, math.MaxInt32, math.MinInt, math.MinInt + 1, math.MinInt + 2, math.MinInt + 3, math.MaxInt - 1, math.MaxInt}
}

// strangeBits are bits that no feature has: each alone, and some together.
func strangeBits() []uint32 {
	l := []uint32{strange, strange - 64, 1<<31 + 64}
	for bit := uint32(64); bit != 0; bit <<= 1 {
		l = append(l, bit)
	}
	return l
}

// rolls answers numbers that look like none in particular, the same ones each time.
func rolls(seed uint64) func(below int) int {
	return func(below int) int {
		seed = seed*6364136223846793005 + 1442695040888963407
		return int((seed >> 33) % uint64(below))
	}
}

// The model: each takes the words of the chapter one by one.

// isVersion tells whether a number is 1, 2 or 3.
func isVersion(n int) bool { return n == 1 || n == 2 || n == 3 }

// canHave tells whether a version can have what stands at a bit.
func canHave(version, bit int) bool {
	for _, h := range had() {
		if h.feature == 1<<bit {
			return isVersion(version) && version >= h.from
		}
	}
	return false
}

// has tells whether a bit stands among features.
func has(features uint32, bit int) bool { return features>>bit%2 == 1 }

// modelCeiling is what Ceiling has to answer.
func modelCeiling(version int) uint32 {
	features := uint32(0)
	for bit := range 32 {
		if canHave(version, bit) {
			features += 1 << bit
		}
	}
	return features
}

// modelMay is what May has to answer.
func modelMay(c api.Choice) bool {
	for bit := range 32 {
		if has(c.Features, bit) && !canHave(c.Version, bit) {
			return false
		}
	}
	return isVersion(c.Version)
}

// modelChoose is what Choose has to answer.
func modelChoose(a, b api.Offer) (api.Choice, api.Errno) {
	if !isVersion(a.Max) || !isVersion(b.Max) {
		return api.Choice{}, api.ErrArg
	}
	c := api.Choice{Version: a.Max}
	if b.Max < a.Max {
		c.Version = b.Max
	}
	for bit := range 32 {
		if has(a.Features, bit) && has(b.Features, bit) && canHave(c.Version, bit) {
			c.Features += 1 << bit
		}
	}
	return c, api.OK
}

// couldDo tells whether an end that offers this could do a choice.
func couldDo(o api.Offer, c api.Choice) bool {
	if c.Version < 1 || c.Version > o.Max {
		return false
	}
	for bit := range 32 {
		if has(c.Features, bit) && !has(o.Features, bit) {
			return false
		}
	}
	return true
}

// notLess tells whether a choice has no lesser version than another one, and all of its features.
func notLess(c, than api.Choice) bool {
	for bit := range 32 {
		if has(than.Features, bit) && !has(c.Features, bit) {
			return false
		}
	}
	return c.Version >= than.Version
}

// allChoices are all that may be.
func allChoices() []api.Choice {
	var l []api.Choice
	for version := 1; version <= 3; version++ {
		for f := range uint32(256) {
			if c := (api.Choice{Version: version, Features: f}); modelMay(c) {
				l = append(l, c)
			}
		}
	}
	return l
}

// allOffers are those of all versions with all of the features' sets.
func allOffers() []api.Offer {
	var l []api.Offer
	for version := 1; version <= 3; version++ {
		for f := range uint32(64) {
			l = append(l, api.Offer{Max: version, Features: f})
		}
	}
	return l
}

// anyNumber is a version, a number beside one, or one that isn't near any.
func anyNumber(roll func(int) int) int {
	switch l := noVersions(); roll(3) {
	case 0:
		return l[roll(len(l))]
	case 1:
		return roll(1<<31)<<32 - roll(1<<31)<<16
	}
	return 1 + roll(3)
}

// anyFeatures are any bits.
func anyFeatures(roll func(int) int) uint32 {
	f := uint32(roll(1<<16)<<16 | roll(1<<16))
	if roll(2) == 0 {
		return f % 64
	}
	return f
}

// choose is Choose of two offers that it has to take.
func choose(t *testing.T, a, b api.Offer) api.Choice {
	t.Helper()
	c, e := feat.Choose(a, b)
	if e != api.OK {
		t.Fatal("of", a, "and", b, "nothing is chosen:", e)
	}
	return c
}

// chosen holds what is chosen of two offers, whichever stands first, against what is asked for.
func chosen(t *testing.T, a, b api.Offer, want api.Choice) {
	t.Helper()
	if c := choose(t, a, b); c != want {
		t.Error("of", a, "and", b, "is chosen", c, "and not", want)
	}
	if c := choose(t, b, a); c != want {
		t.Error("of", b, "and", a, "is chosen", c, "and not", want)
	}
}

// refused holds against ErrArg what is chosen of two offers, whichever stands first.
func refused(t *testing.T, a, b api.Offer) {
	t.Helper()
	for _, l := range [][2]api.Offer{{a, b}, {b, a}} {
		if c, e := feat.Choose(l[0], l[1]); e != api.ErrArg || c != (api.Choice{}) {
			t.Error("of", l[0], "and", l[1], "is chosen", c, e)
		}
	}
}

// P14.1: the chapter's examples

func TestExamples(t *testing.T) {
	chosen(t, api.Offer{Max: 3, Features: fAll}, api.Offer{Max: 2, Features: fColor + fTrue + fLink}, api.Choice{Version: 2, Features: fColor + fTrue})
	for i, want := range []uint32{17, 51, 63} {
		if f := feat.Ceiling(i + 1); f != want {
			t.Error("the version", i+1, "can have", f, "and not", want)
		}
	}
}

// P14.1: Ceiling

func TestCeiling(t *testing.T) {
	for version, want := range map[int]uint32{
		1: fColor + fTitle,
		2: fColor + fTitle + fTrue + fMouse,
		3: fColor + fTitle + fTrue + fMouse + fWide + fLink,
	} {
		if f := feat.Ceiling(version); f != want || f != modelCeiling(version) {
			t.Error("the version", version, "can have", f, "and not", want)
		}
	}
}

func TestCeilingOfNone(t *testing.T) {
	for _, n := range noVersions() {
		if f := feat.Ceiling(n); f != 0 {
			t.Error("what is no version,", n, "can have", f)
		}
	}
}

// P14.1: May

func TestMayWithOneFeature(t *testing.T) {
	for _, h := range had() {
		for version := 1; version <= 3; version++ {
			if ok := feat.May(api.Choice{Version: version, Features: h.feature}); ok != (version >= h.from) {
				t.Error("version", version, "with", h.feature, "may be:", ok)
			}
		}
	}
}

func TestMay(t *testing.T) {
	for c, want := range map[api.Choice]bool{
		{Version: 1}: true, {Version: 2}: true, {Version: 3}: true,
		{Version: 1, Features: 17}: true, {Version: 2, Features: 51}: true, {Version: 3, Features: 63}: true,
		{Version: 2, Features: 17}: true, {Version: 3, Features: 17}: true, {Version: 3, Features: 51}: true,
		{Version: 1, Features: 51}: false, {Version: 1, Features: 63}: false, {Version: 2, Features: 63}: false,
		{Version: 1, Features: 17 + fTrue}: false, {Version: 1, Features: 17 + fMouse}: false, {Version: 1, Features: 17 + fWide}: false, {Version: 1, Features: 17 + fLink}: false,
		{Version: 2, Features: 51 + fWide}: false, {Version: 2, Features: 51 + fLink}: false, {Version: 3, Features: 63 + 64}: false,
		{Version: 2, Features: fTrue + fTitle}: true, {Version: 3, Features: fLink + fColor}: true,
	} {
		if ok := feat.May(c); ok != want {
			t.Error(c, "may be:", ok)
		}
	}
}

func TestMayWithStrangeBits(t *testing.T) {
	for _, bits := range strangeBits() {
		for version := 1; version <= 3; version++ {
			for _, own := range []uint32{0, fColor, fTitle, modelCeiling(version)} {
				if feat.May(api.Choice{Version: version, Features: own + bits}) {
					t.Error("version", version, "with", own, "and", bits, "may be")
				}
			}
		}
	}
}

func TestMayOfNoVersion(t *testing.T) {
	for _, n := range noVersions() {
		for _, f := range []uint32{0, fColor, fTitle, 17, 51, fAll, 64, strange, math.MaxUint32} {
			if feat.May(api.Choice{Version: n, Features: f}) {
				t.Error("what is no version,", n, "may be with", f)
			}
		}
	}
}

func TestMayOfAll(t *testing.T) {
	number := 0
	for version := -2; version <= 6; version++ {
		for f := range uint32(1 << 10) {
			c := api.Choice{Version: version, Features: f}
			ok := feat.May(c)
			if ok != modelMay(c) {
				t.Error(c, "may be:", ok)
			}
			if ok {
				number++
			}
		}
	}
	if number != 4+16+64 {
		t.Error(number, "choices may be")
	}
}

// P14.1: Choose

func TestChooseByVersions(t *testing.T) {
	for maxes, version := range map[[2]int]int{
		{1, 1}: 1, {1, 2}: 1, {1, 3}: 1,
		{2, 1}: 1, {2, 2}: 2, {2, 3}: 2,
		{3, 1}: 1, {3, 2}: 2, {3, 3}: 3,
	} {
		all := []uint32{17, 51, 63}[version-1]
		a, b := api.Offer{Max: maxes[0], Features: fAll}, api.Offer{Max: maxes[1], Features: fAll}
		none, neither := api.Offer{Max: maxes[0]}, api.Offer{Max: maxes[1]}
		chosen(t, a, b, api.Choice{Version: version, Features: all})
		chosen(t, none, b, api.Choice{Version: version})
		chosen(t, a, neither, api.Choice{Version: version})
		chosen(t, none, neither, api.Choice{Version: version})
	}
}

func TestChooseWithOneFeature(t *testing.T) {
	for _, h := range had() {
		for a := 1; a <= 3; a++ {
			for b := 1; b <= 3; b++ {
				want := api.Choice{Version: min(a, b)}
				if want.Version >= h.from {
					want.Features = h.feature
				}
				chosen(t, api.Offer{Max: a, Features: h.feature}, api.Offer{Max: b, Features: fAll}, want)
				chosen(t, api.Offer{Max: a, Features: fAll}, api.Offer{Max: b, Features: h.feature}, want)
				chosen(t, api.Offer{Max: a, Features: h.feature}, api.Offer{Max: b, Features: h.feature}, want)
				want.Features = 0
				chosen(t, api.Offer{Max: a, Features: h.feature}, api.Offer{Max: b, Features: fAll - h.feature}, want)
				chosen(t, api.Offer{Max: a, Features: h.feature}, api.Offer{Max: b}, want)
			}
		}
	}
}

func TestChooseWithStrangeBits(t *testing.T) {
	for _, bits := range strangeBits() {
		for a := 1; a <= 3; a++ {
			for b := 1; b <= 3; b++ {
				none := api.Choice{Version: min(a, b)}
				all := api.Choice{Version: min(a, b), Features: modelCeiling(min(a, b))}
				chosen(t, api.Offer{Max: a, Features: bits}, api.Offer{Max: b, Features: bits}, none)
				chosen(t, api.Offer{Max: a, Features: bits + fAll}, api.Offer{Max: b, Features: bits}, none)
				chosen(t, api.Offer{Max: a, Features: bits + fAll}, api.Offer{Max: b, Features: bits + fAll}, all)
				chosen(t, api.Offer{Max: a, Features: fAll}, api.Offer{Max: b, Features: bits + fAll}, all)
			}
		}
	}
}

// P14.1, R5: beside ErrArg stands the zero choice, whatever else is offered.
func TestChooseOfNoVersion(t *testing.T) {
	for _, n := range noVersions() {
		for _, f := range []uint32{0, fColor, fAll, strange, math.MaxUint32} {
			for version := 1; version <= 3; version++ {
				refused(t, api.Offer{Max: n, Features: f}, api.Offer{Max: version, Features: f})
				refused(t, api.Offer{Max: n, Features: f}, api.Offer{Max: version, Features: fAll})
			}
			for _, m := range noVersions() {
				refused(t, api.Offer{Max: n, Features: f}, api.Offer{Max: m, Features: fAll})
			}
		}
	}
}

func TestAnyNumbers(t *testing.T) {
	roll := rolls(14)
	for range 200000 {
		a := api.Offer{Max: anyNumber(roll), Features: anyFeatures(roll)}
		b := api.Offer{Max: anyNumber(roll), Features: anyFeatures(roll)}
		if f := feat.Ceiling(a.Max); f != modelCeiling(a.Max) {
			t.Fatal(a.Max, "can have", f)
		}
		for _, f := range []uint32{a.Features, a.Features & modelCeiling(a.Max)} {
			if c := (api.Choice{Version: a.Max, Features: f}); feat.May(c) != modelMay(c) {
				t.Fatal(c, "may be:", feat.May(c))
			}
		}
		c, e := feat.Choose(a, b)
		if want, wrong := modelChoose(a, b); c != want || e != wrong {
			t.Fatal("of", a, "and", b, "is chosen", c, e, "and not", want, wrong)
		}
	}
}

// P14.2

// Of any two offers what is chosen may be, either could do it, and of all others of which that holds none is more.
func TestTheMostThatBothCan(t *testing.T) {
	all := allChoices()
	for _, a := range allOffers() {
		for _, b := range allOffers() {
			c := choose(t, a, b)
			if !modelMay(c) || !feat.May(c) || !couldDo(a, c) || !couldDo(b, c) {
				t.Fatal("of", a, "and", b, "is chosen", c)
			}
			for _, other := range all {
				if couldDo(a, other) && couldDo(b, other) && !notLess(c, other) {
					t.Fatal("of", a, "and", b, "is chosen", c, "but they could", other)
				}
			}
		}
	}
}

// P14.3

func TestWhoeverAsks(t *testing.T) {
	offers := allOffers()
	for n := -1; n <= 4; n++ {
		offers = append(offers, api.Offer{Max: n, Features: math.MaxUint32}, api.Offer{Max: n, Features: strange + fTitle})
	}
	for _, n := range noVersions() {
		offers = append(offers, api.Offer{Max: n, Features: fAll})
	}
	for _, a := range offers {
		for _, b := range offers {
			c, e := feat.Choose(a, b)
			if d, f := feat.Choose(b, a); c != d || e != f {
				t.Fatal("of", a, "and", b, "is chosen", c, e, "and the other way", d, f)
			}
		}
	}
}

func TestAgainstItself(t *testing.T) {
	for _, o := range allOffers() {
		for _, bits := range append(strangeBits(), 0) {
			o := api.Offer{Max: o.Max, Features: o.Features + bits}
			chosen(t, o, o, api.Choice{Version: o.Max, Features: o.Features & modelCeiling(o.Max)})
		}
	}
}

func TestMoreIsNeverLess(t *testing.T) {
	for _, a := range allOffers() {
		for _, b := range allOffers() {
			less := choose(t, a, b)
			for version := a.Max; version <= 3; version++ {
				for bit := range 32 {
					more := api.Offer{Max: version, Features: a.Features | 1<<bit}
					if c := choose(t, more, b); !notLess(c, less) {
						t.Fatal("of", a, "and", b, "is chosen", less, "but of", more, "is chosen", c)
					}
					if c := choose(t, b, more); !notLess(c, less) {
						t.Fatal("of", b, "and", a, "is chosen", less, "but of", more, "is chosen", c)
					}
				}
			}
		}
	}
}

// R2

func TestSameAgain(t *testing.T) {
	var all sync.WaitGroup
	for range 8 {
		all.Go(func() {
			roll := rolls(2)
			for range 5000 {
				a := api.Offer{Max: anyNumber(roll), Features: anyFeatures(roll)}
				b := api.Offer{Max: 1 + roll(3), Features: anyFeatures(roll)}
				want, wrong := modelChoose(a, b)
				for range 2 {
					if c, e := feat.Choose(a, b); c != want || e != wrong {
						t.Error("of", a, "and", b, "is chosen", c, e)
						return
					}
					if feat.Ceiling(a.Max) != modelCeiling(a.Max) || feat.May(want) != modelMay(want) {
						t.Error("Ceiling and May of", a, "and", want)
						return
					}
				}
			}
		})
	}
	all.Wait()
}
