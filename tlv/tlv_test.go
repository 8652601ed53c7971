package tlv_test

import (
	"bytes"
	"math"
	"slices"
	"testing"

	"spyglass/api"
	"spyglass/tlv"
	"spyglass/wire"
)

// leaf is an item that isn't a List.
func leaf(kind int, b ...byte) api.Item { return api.Item{Kind: kind, Bytes: b} }

// list is one that is.
func list(kind int, items ...api.Item) api.Item {
	return api.Item{Kind: kind, List: true, Items: items}
}

// must makes an item critical.
func must(i api.Item) api.Item {
	i.Critical = true
	return i
}

func items(l ...api.Item) []api.Item { return l }

// long is an item of so many bytes.
func long(kind, size int) api.Item { return leaf(kind, bytes.Repeat([]byte{9}, size)...) }

// leaves are n items without bytes, of the Kinds from 1 on.
func leaves(n int) []api.Item {
	var l []api.Item
	for kind := 1; kind <= n; kind++ {
		l = append(l, leaf(kind))
	}
	return l
}

// nested is a list of a List of a List and so on, of so many lists; behind holds the innermost one's items.
func nested(lists int, behind ...api.Item) []api.Item {
	l := behind
	for range lists - 1 {
		l = items(list(1, l...))
	}
	return l
}

// itself is a list whose first item holds the list again.
func itself() []api.Item {
	l := make([]api.Item, 1)
	l[0] = list(1)
	l[0].Items = l
	return l
}

// same tells whether two lists say the same; no elements are nil or empty (R4).
func same(a, b []api.Item) bool {
	return slices.EqualFunc(a, b, func(x, y api.Item) bool {
		return x.Kind == y.Kind && x.Critical == y.Critical && x.List == y.List &&
			bytes.Equal(x.Bytes, y.Bytes) && same(x.Items, y.Items)
	})
}

// deepCopy is a list in other memory.
func deepCopy(l []api.Item) []api.Item {
	var c []api.Item
	for _, i := range l {
		i.Bytes = append([]byte{}, i.Bytes...)
		i.Items = deepCopy(i.Items)
		c = append(c, i)
	}
	return c
}

// rolls answers numbers that look like none in particular, the same ones each time.
func rolls(seed uint64) func(below int) int {
	return func(below int) int {
		seed = seed*6364136223846793005 + 1442695040888963407
		return int((seed >> 33) % uint64(below))
	}
}

// P2.1: Check and Encode

// refused is a list, and the error that Check and Encode answer.
type refused struct {
	name string
	l    []api.Item
	want api.Errno
}

func checkRefused(t *testing.T, rows []refused) {
	t.Helper()
	for _, x := range rows {
		if e := tlv.Check(x.l); e != x.want {
			t.Errorf("%s: Check tells %d, not %d", x.name, e, x.want)
		}
		b, e := tlv.Encode(x.l)
		if e != x.want {
			t.Errorf("%s: Encode tells %d, not %d", x.name, e, x.want)
		}
		if e != api.OK && len(b) != 0 {
			t.Errorf("%s: Encode tells %d bytes beside its error", x.name, len(b))
		}
	}
}

func TestItemsThatMayStand(t *testing.T) {
	checkRefused(t, []refused{
		{"nothing", nil, api.OK},
		{"an empty list", items(), api.OK},
		{"the least Kind", items(leaf(1)), api.OK},
		{"the greatest Kind", items(leaf(1000)), api.OK},
		{"both", items(leaf(1), leaf(1000)), api.OK},
		{"Kinds that rise", items(leaf(3), leaf(4), leaf(9)), api.OK},
		{"Kinds that begin anew within", items(list(5, leaf(1), leaf(5)), leaf(6)), api.OK},
		{"a List without Items", items(list(2)), api.OK},
		{"a List with empty Bytes", items(api.Item{Kind: 2, List: true, Bytes: []byte{}}), api.OK},
		{"Bytes with empty Items", items(api.Item{Kind: 2, Bytes: []byte{1}, Items: []api.Item{}}), api.OK},
		{"critical ones", items(must(leaf(1, 7)), must(list(2, must(leaf(3))))), api.OK},
		{"so many items", leaves(api.MaxItems), api.OK},
		{"so many items, all told", items(list(1, leaves(62)...), leaf(2)), api.OK},
		{"so deep", nested(api.MaxDepth, leaf(1, 7)), api.OK},
		{"so deep, and a leaf beside", nested(api.MaxDepth, leaf(1), leaf(2)), api.OK},
		{"so many bytes", items(long(1, api.MaxText-3)), api.OK},
		{"so many bytes within", items(list(1, long(1, api.MaxText-6))), api.OK},
	})
}

func TestItemsThatMayNot(t *testing.T) {
	checkRefused(t, []refused{
		{"below the least Kind", items(leaf(0)), api.ErrArg},
		{"far below it", items(leaf(math.MinInt)), api.ErrArg},
		{"above the greatest Kind", items(leaf(1001)), api.ErrArg},
		{"far above it", items(leaf(math.MaxInt)), api.ErrArg},
		{"a Kind whose fourfold is that of another", items(leaf(1<<62 + 1)), api.ErrArg},
		{"one Kind twice", items(leaf(3), leaf(3)), api.ErrArg},
		{"Kinds that fall", items(leaf(3), leaf(2)), api.ErrArg},
		{"one Kind twice within", items(list(1, leaf(3), leaf(3))), api.ErrArg},
		{"a Kind below the one ahead of a List within", items(leaf(3), list(4, leaf(9)), leaf(4)), api.ErrArg},
		{"Items of what isn't a List", items(api.Item{Kind: 1, Items: leaves(1)}), api.ErrArg},
		{"Bytes of a List", items(api.Item{Kind: 1, List: true, Bytes: []byte{7}}), api.ErrArg},
		{"both", items(api.Item{Kind: 1, Bytes: []byte{7}, Items: leaves(1)}), api.ErrArg},
		{"both, of a List", items(api.Item{Kind: 1, List: true, Bytes: []byte{7}, Items: leaves(1)}), api.ErrArg},
		{"one item more", leaves(api.MaxItems + 1), api.ErrLong},
		{"one item more, all told", items(list(1, leaves(63)...), leaf(2)), api.ErrLong},
		{"one item more within", items(list(1, leaves(64)...)), api.ErrLong},
		{"one list more", nested(api.MaxDepth, list(1)), api.ErrDeep},
		{"one list more, with items", nested(api.MaxDepth+1, leaf(1)), api.ErrDeep},
		{"many lists more", nested(1000, leaf(1)), api.ErrDeep},
		{"itself", itself(), api.ErrDeep},
		{"one byte more of an item", items(long(1, api.MaxText+1)), api.ErrLong},
		{"all that an item may have", items(long(1, api.MaxText)), api.ErrLong},
		{"one byte more", items(long(1, api.MaxText-2)), api.ErrLong},
		{"one byte more within", items(list(1, long(1, api.MaxText-5))), api.ErrLong},
		{"one byte more of two", items(long(1, 2000), long(2, api.MaxText-2000-5)), api.ErrLong},
		{"far more, of many", items(list(1, long(1, 4096), long(2, 4096)), list(2, long(1, 4096))), api.ErrLong},
	})
}

func TestSeveralErrorsOfItems(t *testing.T) {
	full := leaves(api.MaxItems)
	deep := func(i ...api.Item) []api.Item { return nested(api.MaxDepth, i...) }
	bytesAndDeep := list(1)
	bytesAndDeep.Bytes = []byte{7}
	checkRefused(t, []refused{
		{"too many ahead of a wrong Kind", append(leaves(api.MaxItems), leaf(1)), api.ErrLong},
		{"too many ahead of a Kind too great", append(leaves(api.MaxItems), leaf(1001)), api.ErrLong},
		{"a wrong Kind ahead of too many", append(items(leaf(0)), full...), api.ErrArg},
		{"a wrong Kind ahead of too deep", deep(list(0)), api.ErrArg},
		{"Bytes of a List ahead of too deep", deep(bytesAndDeep), api.ErrArg},
		{"a wrong Kind ahead of too many bytes", items(long(0, api.MaxText+1)), api.ErrArg},
		{"Bytes of a List ahead of too many", items(api.Item{Kind: 1, List: true, Bytes: make([]byte, 4097)}), api.ErrArg},
		{"too deep ahead of what is within", deep(list(1, leaf(0))), api.ErrDeep},
		{"an item ahead of its own Items", items(api.Item{Kind: 0, List: true, Items: nested(5, leaf(1))}), api.ErrArg},
		{"its Items ahead of the next one", items(list(1, nested(5, leaf(1))...), leaf(0)), api.ErrDeep},
		{"its Items ahead of the next one, which is too long", items(list(2, leaf(0)), long(3, 4097)), api.ErrArg},
		{"the one ahead", items(long(1, 4097), leaf(0)), api.ErrLong},
		{"too many ahead of too deep", deep(append(leaves(61), list(62))...), api.ErrLong},
		{"too deep behind so many", deep(append(leaves(60), list(61))...), api.ErrDeep},
		{"any item ahead of all the bytes", items(long(1, 4096), long(2, 4096), leaf(2)), api.ErrArg},
		{"too deep ahead of all the bytes", items(long(1, 4096), list(2, nested(4, leaf(1))...)), api.ErrDeep},
	})
}

func TestEncodeLays(t *testing.T) {
	for _, x := range []struct {
		l    []api.Item
		want []byte
	}{
		{nil, nil},
		{items(leaf(1, 7), must(list(2))), []byte{4, 1, 7, 11, 0}},
		{items(leaf(1)), []byte{4, 0}},
		{items(must(leaf(1))), []byte{6, 0}},
		{items(list(1)), []byte{5, 0}},
		{items(leaf(31, 1), leaf(32, 2, 3)), []byte{124, 1, 1, 128, 1, 2, 2, 3}},
		{items(leaf(1000)), []byte{160, 31, 0}},
		{items(must(list(1000, must(leaf(1000, 5))))), []byte{163, 31, 4, 162, 31, 1, 5}},
		{items(list(1, leaf(1, 8), list(2, leaf(3, 9))), leaf(2, 7)), []byte{5, 8, 4, 1, 8, 9, 3, 12, 1, 9, 8, 1, 7}},
		{items(api.Item{Kind: 2, List: true, Bytes: []byte{}, Items: []api.Item{}}), []byte{9, 0}},
		{nested(4, leaf(1, 7)), []byte{5, 7, 5, 5, 5, 3, 4, 1, 7}},
	} {
		if b, e := tlv.Encode(x.l); e != api.OK || !bytes.Equal(b, x.want) {
			t.Errorf("Encode of %v is %v, error %d, not %v", x.l, b, e, x.want)
		}
	}
	b, e := tlv.Encode(items(long(1, 200)))
	if e != api.OK || !bytes.Equal(b, append([]byte{4, 200, 1}, bytes.Repeat([]byte{9}, 200)...)) {
		t.Errorf("Encode of 200 bytes is %v, error %d", b, e)
	}
}

// P2.1: Decode

func TestDecodeReads(t *testing.T) {
	for _, x := range []struct {
		b    []byte
		want []api.Item
	}{
		{nil, nil},
		{[]byte{4, 1, 7, 11, 0}, items(leaf(1, 7), must(list(2)))},
		{[]byte{4, 0}, items(leaf(1))},
		{[]byte{7, 0}, items(must(list(1)))},
		{[]byte{160, 31, 0}, items(leaf(1000))},
		{[]byte{4, 0, 163, 31, 0}, items(leaf(1), must(list(1000)))},
		{[]byte{5, 8, 4, 1, 8, 9, 3, 12, 1, 9, 8, 1, 7}, items(list(1, leaf(1, 8), list(2, leaf(3, 9))), leaf(2, 7))},
		{[]byte{5, 7, 5, 5, 5, 3, 4, 1, 7}, nested(4, leaf(1, 7))},
		{[]byte{4, 2, 5, 200}, items(leaf(1, 5, 200))},
	} {
		if l, e := tlv.Decode(x.b); e != api.OK || !same(l, x.want) {
			t.Errorf("Decode of %v is %v, error %d, not %v", x.b, l, e, x.want)
		}
	}
	b := append([]byte{4, 253, 31}, bytes.Repeat([]byte{9}, api.MaxText-3)...)
	if l, e := tlv.Decode(b); e != api.OK || !same(l, items(long(1, api.MaxText-3))) {
		t.Errorf("Decode of MaxText bytes: %d items, error %d", len(l), e)
	}
}

// laidLeaves are the bytes of n items without bytes, of the Kinds from 1 on.
func laidLeaves(n int) []byte {
	var b []byte
	for kind := 1; kind <= n; kind++ {
		b = append(append(b, wire.Var(uint64(4*kind))...), 0)
	}
	return b
}

// laidList is the bytes of a List of the Kind 1 with these bytes within.
func laidList(b []byte) []byte {
	return append(append([]byte{5}, wire.Var(uint64(len(b)))...), b...)
}

// laidNested is the bytes of a list of a List and so on, of so many lists; b is the innermost one's.
func laidNested(lists int, b []byte) []byte {
	for range lists - 1 {
		b = laidList(b)
	}
	return b
}

// broken is some bytes, and the error that Decode answers.
type broken struct {
	name string
	b    []byte
	want api.Errno
}

func checkBroken(t *testing.T, rows []broken) {
	t.Helper()
	for _, x := range rows {
		l, e := tlv.Decode(x.b)
		if e != x.want {
			t.Errorf("%s: Decode of %v tells %d, not %d", x.name, x.b, e, x.want)
		}
		if e != api.OK && len(l) != 0 {
			t.Errorf("%s: Decode of %v tells %v beside its error", x.name, x.b, l)
		}
	}
}

// with answers b and more bytes behind it, in new memory.
func with(b []byte, more ...byte) []byte { return append(bytes.Clone(b), more...) }

func TestDecodeRefuses(t *testing.T) {
	nine := bytes.Repeat([]byte{255}, 9)
	checkBroken(t, []broken{
		{"more than MaxText", make([]byte, api.MaxText+1), api.ErrLong},
		{"more than MaxText that could be read", append([]byte{4, 254, 31}, make([]byte, api.MaxText-2)...), api.ErrLong},
		{"no end of a number", []byte{128}, api.ErrShort},
		{"a number of another form", []byte{132, 0, 0}, api.ErrForm},
		{"a number beyond 64 bits", with(nine, 2, 0), api.ErrForm},
		{"the Kind 0", []byte{0, 0}, api.ErrForm},
		{"the Kind 0, critical", []byte{2, 0}, api.ErrForm},
		{"the Kind 0, a List", []byte{1, 0}, api.ErrForm},
		{"the Kind 0, both", []byte{3, 0}, api.ErrForm},
		{"the Kind 1001", []byte{164, 31, 0}, api.ErrForm},
		{"the greatest Kind of all", with(nine, 1, 0), api.ErrForm},
		{"a Kind that is 1, cut to 32 bits", append(wire.Var(4*(1<<32+1)), 0), api.ErrForm},
		{"one Kind twice", []byte{4, 0, 4, 0}, api.ErrForm},
		{"one Kind twice, as a List", []byte{4, 0, 5, 0}, api.ErrForm},
		{"one Kind twice, critical", []byte{4, 0, 6, 0}, api.ErrForm},
		{"Kinds that fall", []byte{12, 0, 8, 0}, api.ErrForm},
		{"one Kind twice within", []byte{5, 4, 4, 0, 4, 0}, api.ErrForm},
		{"one Kind behind its List", []byte{5, 2, 8, 0, 4, 0}, api.ErrForm},
		{"one item more", laidLeaves(api.MaxItems + 1), api.ErrLong},
		{"one item more within", laidList(laidLeaves(api.MaxItems)), api.ErrLong},
		{"one item more behind", with(laidList(laidLeaves(api.MaxItems-1)), 8, 0), api.ErrLong},
		{"one list more", laidNested(api.MaxDepth, []byte{5, 0}), api.ErrDeep},
		{"many lists more", laidNested(100, []byte{4, 0}), api.ErrDeep},
		{"no text", []byte{4}, api.ErrShort},
		{"no end of a text's number", []byte{4, 128}, api.ErrShort},
		{"a text's number of another form", []byte{4, 128, 0}, api.ErrForm},
		{"a text of more than MaxText", []byte{4, 129, 32}, api.ErrLong},
		{"a text of far more", append([]byte{4}, with(nine, 1)...), api.ErrLong},
		{"a text of MaxText that isn't there", []byte{4, 128, 32}, api.ErrShort},
		{"a byte missing", []byte{4, 2, 7}, api.ErrShort},
		{"a byte missing within", []byte{5, 2, 4, 1}, api.ErrShort},
		{"a byte missing within, but not behind", []byte{5, 2, 4, 1, 8, 0}, api.ErrShort},
		{"half an item within", []byte{5, 1, 4, 8, 0}, api.ErrShort},
		{"half a number within", []byte{5, 1, 132, 0, 0}, api.ErrShort},
		{"half an item behind one", []byte{4, 0, 8}, api.ErrShort},
	})
	checkBroken(t, []broken{
		{"so many items", laidLeaves(api.MaxItems), api.OK},
		{"so many items within", laidList(laidLeaves(api.MaxItems - 1)), api.OK},
		{"so deep", laidNested(api.MaxDepth, []byte{4, 1, 7}), api.OK},
	})
}

func TestSeveralErrorsOfBytes(t *testing.T) {
	full := laidLeaves(api.MaxItems)
	deep := func(b ...byte) []byte { return laidNested(api.MaxDepth, b) }
	checkBroken(t, []broken{
		{"too many bytes ahead of all", bytes.Repeat([]byte{128}, api.MaxText+1), api.ErrLong},
		{"a number cut short ahead of too many", with(full, 128), api.ErrShort},
		{"a number of another form ahead of too many", with(full, 128, 0), api.ErrForm},
		{"a wrong Kind ahead of too many", with(full, 4, 0), api.ErrForm},
		{"a Kind too great ahead of too many", with(full, 164, 31), api.ErrForm},
		{"too many ahead of no text", with(full, 160, 31), api.ErrLong},
		{"too many ahead of a text's number of another form", with(full, 160, 31, 128, 0), api.ErrLong},
		{"too many ahead of too deep", deep(with(laidLeaves(61), 249, 1, 0)...), api.ErrLong},
		{"too deep behind so many", deep(with(laidLeaves(60), 249, 1, 0)...), api.ErrDeep},
		{"a wrong Kind ahead of too deep", deep(1, 0), api.ErrForm},
		{"a Kind twice ahead of too deep", deep(4, 0, 5, 0), api.ErrForm},
		{"too deep ahead of no text", deep(5), api.ErrDeep},
		{"too deep ahead of a text of another form", deep(5, 128, 0), api.ErrDeep},
		{"too deep ahead of a long text", deep(5, 129, 32), api.ErrDeep},
		{"too deep ahead of what is within", deep(5, 1, 128), api.ErrDeep},
		{"a long text ahead of a short one", []byte{4, 255, 255, 3}, api.ErrLong},
		{"its Items ahead of the next one", []byte{5, 2, 4, 9, 4, 0}, api.ErrShort},
		{"a List's text ahead of its Items", []byte{5, 9, 0, 0}, api.ErrShort},
		{"its Items ahead of one cut short", []byte{5, 2, 0, 0, 8}, api.ErrForm},
		{"the one ahead", []byte{4, 129, 32, 0, 0}, api.ErrLong},
	})
}

// P2.1: models that say the chapter's words in another way

// placed is an item with the depth of its list, and the Kind of the one ahead in it.
type placed struct {
	item         api.Item
	depth, ahead int
}

// flat is the first items of a list, in the order in which they are looked at.
func flat(l []api.Item, depth, most int) []placed {
	var all []placed
	ahead := 0
	for _, i := range l {
		all = append(all, placed{i, depth, ahead})
		ahead = i.Kind
		if depth <= api.MaxDepth {
			all = append(all, flat(i.Items, depth+1, most)...)
		}
		if len(all) > most {
			break
		}
	}
	return all
}

// size is how many bytes a list has.
func size(l []api.Item) int {
	all := 0
	for _, i := range l {
		n := len(i.Bytes) + size(i.Items)
		all += len(wire.Var(uint64(4*i.Kind))) + len(wire.Var(uint64(n))) + n
	}
	return all
}

func modelCheck(l []api.Item) api.Errno {
	for n, p := range flat(l, 1, api.MaxItems) {
		i := p.item
		switch {
		case n >= api.MaxItems:
			return api.ErrLong
		case i.Kind < 1, i.Kind > 1000, i.Kind <= p.ahead:
			return api.ErrArg
		case len(i.Items) > 0 && !i.List, len(i.Bytes) > 0 && i.List:
			return api.ErrArg
		case i.List && p.depth == api.MaxDepth:
			return api.ErrDeep
		case len(i.Bytes) > api.MaxText:
			return api.ErrLong
		}
	}
	if size(l) > api.MaxText {
		return api.ErrLong
	}
	return api.OK
}

// modelVar answers the number at the place at, and how many bytes it has, of b up to end.
func modelVar(b []byte, at, end int) (uint64, int, api.Errno) {
	r := wire.New(b[at:end])
	n := r.Var()
	return n, end - at - r.Left(), r.Err()
}

// modelDecode answers the error of bytes: by places in all of them, with a stack of the lists that are open.
func modelDecode(b []byte) api.Errno {
	type open struct{ end, ahead int }
	if len(b) > api.MaxText {
		return api.ErrLong
	}
	lists := []open{{len(b), 0}}
	at, count := 0, 0
	for len(lists) > 0 {
		now := &lists[len(lists)-1]
		if at == now.end {
			lists = lists[:len(lists)-1]
			continue
		}
		n, used, e := modelVar(b, at, now.end)
		if e != api.OK {
			return e
		}
		at += used
		if n/4 < 1 || n/4 > 1000 || int(n/4) <= now.ahead {
			return api.ErrForm
		}
		now.ahead = int(n / 4)
		if count++; count > api.MaxItems {
			return api.ErrLong
		}
		if n%2 == 1 && len(lists) == api.MaxDepth {
			return api.ErrDeep
		}
		length, used, e := modelVar(b, at, now.end)
		if e != api.OK {
			return e
		}
		at += used
		if length > api.MaxText {
			return api.ErrLong
		}
		if int(length) > now.end-at {
			return api.ErrShort
		}
		if n%2 == 1 {
			lists = append(lists, open{at + int(length), 0})
		} else {
			at += int(length)
		}
	}
	return api.OK
}

// someItems is a list as there may be one, but now and then with a fault.
func someItems(roll func(int) int, depth, faults int) []api.Item {
	var l []api.Item
	kind := 0
	for range roll(5) {
		kind += 1 + roll(30)
		i := leaf(kind)
		i.Critical = roll(3) == 0
		if roll(3) == 0 && depth < 5 {
			i = list(kind, someItems(roll, depth+1, faults)...)
		} else {
			i.Bytes = make([]byte, roll(6))
		}
		if roll(1000) < faults {
			spoil(roll, &i)
		}
		l = append(l, i)
	}
	return l
}

// spoil makes one fault.
func spoil(roll func(int) int, i *api.Item) {
	switch roll(7) {
	case 0:
		i.Kind = roll(3) - 1
	case 1:
		i.Kind = 1000 + roll(2)
	case 2:
		i.List = !i.List
	case 3:
		i.Bytes = make([]byte, 4080+roll(20))
	case 4:
		i.Items = leaves(50 + roll(20))
	case 5:
		*i = list(max(i.Kind, 1), leaves(40+roll(30))...)
	case 6:
		*i = list(max(i.Kind, 1), nested(1+roll(5), leaf(1))...)
	}
}

func TestCheckIsAsTheModelSays(t *testing.T) {
	roll := rolls(2)
	seen := map[api.Errno]int{}
	for row := range 40000 {
		l := someItems(roll, 1, row%300)
		want := modelCheck(l)
		seen[want]++
		b, e := tlv.Encode(l)
		if tlv.Check(l) != want || e != want {
			t.Fatalf("row %d: Check %d, Encode %d, not %d", row, tlv.Check(l), e, want)
		}
		if e == api.OK && len(b) != size(l) {
			t.Fatalf("row %d: %d bytes, not %d", row, len(b), size(l))
		}
	}
	for _, e := range []api.Errno{api.OK, api.ErrArg, api.ErrLong, api.ErrDeep} {
		if seen[e] == 0 {
			t.Errorf("no row had the error %d", e)
		}
	}
}

// alter answers some bytes with a few changes.
func alter(roll func(int) int, b []byte) []byte {
	b = bytes.Clone(b)
	for range roll(4) {
		if len(b) == 0 {
			return []byte{byte(roll(256))}
		}
		at := roll(len(b))
		switch roll(5) {
		case 0:
			b[at] = byte(roll(256))
		case 1:
			b[at] ^= 1 << roll(8)
		case 2:
			b = b[:at]
		case 3:
			b = slices.Delete(b, at, at+1)
		case 4:
			b = slices.Insert(b, at, byte(roll(12)))
		}
	}
	return b
}

func TestDecodeIsAsTheModelSays(t *testing.T) {
	roll := rolls(3)
	seen := map[api.Errno]int{}
	for row := range 60000 {
		laid, _ := tlv.Encode(someItems(roll, 1, 0))
		b := alter(roll, laid)
		if row%10 == 0 {
			b = append(laidLeaves(60+roll(3)), b...)
		}
		if row%10 == 1 {
			b = laidNested(1+roll(4), b)
		}
		want := modelDecode(b)
		seen[want]++
		l, e := tlv.Decode(b)
		if e != want {
			t.Fatalf("row %d: Decode of %v tells %d, not %d", row, b, e, want)
		}
		if e != api.OK && len(l) != 0 {
			t.Fatalf("row %d: %v beside an error", row, l)
		}
	}
	for _, e := range []api.Errno{api.OK, api.ErrShort, api.ErrForm, api.ErrLong, api.ErrDeep} {
		if seen[e] == 0 {
			t.Errorf("no row had the error %d", e)
		}
	}
}

// P2.1: Pick and Get

func TestPick(t *testing.T) {
	example := items(leaf(1, 7), must(list(2)))
	odd := items(leaf(5, 1), must(leaf(-3, 2)), leaf(5, 3), leaf(0), list(9999, leaf(0)), must(leaf(5)))
	within := items(list(1, must(leaf(9)), leaf(1)), api.Item{Kind: 2, Bytes: []byte{1}, Items: leaves(2)})
	for _, x := range []struct {
		name  string
		l     []api.Item
		known []int
		want  []api.Item
		e     api.Errno
	}{
		{"the example", example, []int{1}, nil, api.ErrCritical},
		{"the critical one known", example, []int{2}, items(must(list(2))), api.OK},
		{"both known", example, []int{1, 2}, example, api.OK},
		{"known in another order, and twice", example, []int{2, 7, 1, 2}, example, api.OK},
		{"none known, one critical", example, nil, nil, api.ErrCritical},
		{"none known", leaves(3), nil, nil, api.OK},
		{"others known", leaves(3), []int{4, 0, -1}, nil, api.OK},
		{"some known", leaves(5), []int{2, 4}, items(leaf(2), leaf(4)), api.OK},
		{"no items", nil, []int{1}, nil, api.OK},
		{"nothing", nil, nil, nil, api.OK},
		{"a critical one behind those that are known", items(leaf(1), must(leaf(2))), []int{1}, nil, api.ErrCritical},
		{"items that may not stand so", odd, []int{5, -3}, items(leaf(5, 1), must(leaf(-3, 2)), leaf(5, 3), must(leaf(5))), api.OK},
		{"items that may not stand so, one critical", odd, []int{0, 9999, 5}, nil, api.ErrCritical},
		{"the Kind 0", odd, []int{0, 5, -3, 9999}, odd, api.OK},
		{"what is within isn't looked at", within, []int{1, 2}, within, api.OK},
		{"what is within isn't looked at, left out", within, []int{2}, within[1:], api.OK},
		{"more than 64", leaves(100), []int{100, 99}, items(leaf(99), leaf(100)), api.OK},
		{"a long one", items(long(3, 5000)), []int{3}, items(long(3, 5000)), api.OK},
	} {
		if l, e := tlv.Pick(x.l, x.known...); e != x.e || !same(l, x.want) {
			t.Errorf("%s: Pick tells %v, error %d, not %v, %d", x.name, l, e, x.want, x.e)
		}
	}
}

func TestGet(t *testing.T) {
	l := items(leaf(3, 1), must(list(5, leaf(8, 2))), leaf(3, 4), leaf(-1, 5), leaf(5), leaf(0, 6))
	for _, x := range []struct {
		kind int
		want api.Item
		ok   bool
	}{
		{3, leaf(3, 1), true},
		{5, must(list(5, leaf(8, 2))), true},
		{-1, leaf(-1, 5), true},
		{0, leaf(0, 6), true},
		{8, api.Item{}, false},
		{4, api.Item{}, false},
		{math.MaxInt, api.Item{}, false},
	} {
		if i, ok := tlv.Get(l, x.kind); ok != x.ok || !same(items(i), items(x.want)) {
			t.Errorf("Get of %d: %v, %v; not %v, %v", x.kind, i, ok, x.want, x.ok)
		}
	}
	if i, ok := tlv.Get(nil, 0); ok || !same(items(i), items(api.Item{})) {
		t.Errorf("Get of no items: %v, %v", i, ok)
	}
}

// P2.2

func TestWhatIsLaidIsReadAsItWas(t *testing.T) {
	check := func(l []api.Item) {
		t.Helper()
		b, e := tlv.Encode(l)
		if e != api.OK {
			return
		}
		if got, e := tlv.Decode(b); e != api.OK || !same(got, l) {
			t.Fatalf("%v is laid as %v and read as %v, error %d", l, b, got, e)
		}
	}
	for kind := 1; kind <= 1000; kind++ {
		check(items(leaf(kind, 7), must(list(kind+1, must(leaf(kind)), list(kind+1)))))
	}
	for _, n := range []int{0, 1, 127, 128, 4000, 4092, 4093} {
		check(items(long(1, n)))
	}
	check(leaves(api.MaxItems))
	check(nested(api.MaxDepth, leaves(60)...))
	roll := rolls(4)
	for range 20000 {
		check(someItems(roll, 1, 0))
	}
}

// laidAgain fails, if what is read of bytes is laid in another way.
func laidAgain(t *testing.T, b []byte) bool {
	t.Helper()
	l, e := tlv.Decode(b)
	if e != api.OK {
		return false
	}
	if again, e := tlv.Encode(l); e != api.OK || !bytes.Equal(again, b) {
		t.Fatalf("%v is read as %v and laid as %v, error %d", b, l, again, e)
	}
	return true
}

func TestWhatIsReadIsLaidAsItStood(t *testing.T) {
	digits := []byte{0, 1, 2, 3, 4, 5, 6, 7, 8, 11, 127, 128, 129, 132, 160, 255}
	read := 0
	for n := range 1 << 20 {
		b := make([]byte, 1+n%5)
		for at := range b {
			b[at] = digits[n>>(4*at)&15]
		}
		if laidAgain(t, b) {
			read++
		}
	}
	roll := rolls(5)
	for range 40000 {
		laid, _ := tlv.Encode(someItems(roll, 1, 0))
		if laidAgain(t, alter(roll, laid)) {
			read++
		}
	}
	if read < 10000 {
		t.Errorf("only %d were read", read)
	}
}

// P2.3

func TestFurtherItemsArePassedOver(t *testing.T) {
	roll := rolls(6)
	for row := range 20000 {
		l := someItems(roll, 1, 0)
		var known []int
		for _, i := range l {
			if roll(4) > 0 {
				known = append(known, i.Kind)
			}
		}
		was, wasE := tlv.Pick(l, known...)
		further := list(2000+roll(9), someItems(roll, 1, 0)...)
		if roll(2) == 0 {
			further = leaf(2000, byte(roll(256)))
		}
		at := roll(len(l) + 1)
		if got, e := tlv.Pick(slices.Insert(deepCopy(l), at, further), known...); e != wasE || !same(got, was) {
			t.Fatalf("row %d: with a further item %v, error %d; without %v, %d", row, got, e, was, wasE)
		}
		if got, e := tlv.Pick(slices.Insert(deepCopy(l), at, must(further)), known...); e != api.ErrCritical || len(got) != 0 {
			t.Fatalf("row %d: with a critical one %v, error %d", row, got, e)
		}
	}
}

func TestFurtherItemsArePassedOverBehindBytes(t *testing.T) {
	// 4 1 7: the Kind 1; 12 1 9: the Kind 3; between them one of the Kind 2.
	for _, x := range []struct {
		b []byte
		e api.Errno
	}{
		{[]byte{4, 1, 7, 12, 1, 9}, api.OK},
		{[]byte{4, 1, 7, 8, 1, 5, 12, 1, 9}, api.OK},
		{[]byte{4, 1, 7, 9, 2, 6, 0, 12, 1, 9}, api.OK},
		{[]byte{4, 1, 7, 10, 1, 5, 12, 1, 9}, api.ErrCritical},
		{[]byte{4, 1, 7, 11, 0, 12, 1, 9}, api.ErrCritical},
	} {
		l, e := tlv.Decode(x.b)
		if e != api.OK {
			t.Fatalf("Decode of %v: %d", x.b, e)
		}
		want := items(leaf(1, 7), leaf(3, 9))
		if x.e != api.OK {
			want = nil
		}
		if got, e := tlv.Pick(l, 1, 3); e != x.e || !same(got, want) {
			t.Errorf("Pick of %v tells %v, error %d", x.b, got, e)
		}
	}
}

// R1

func TestNoCallPanics(t *testing.T) {
	roll := rolls(7)
	for range 20000 {
		b := make([]byte, roll(60))
		for at := range b {
			b[at] = byte(roll(256))
		}
		tlv.Decode(b)
	}
	for _, n := range []int{math.MinInt, -1, 0, 1, 1000, 1001, math.MaxInt} {
		l := items(leaf(n), must(list(n, leaf(n))), leaf(n))
		tlv.Check(l)
		tlv.Encode(l)
		tlv.Pick(l, n, n)
		tlv.Get(l, n)
	}
}

// depthOf is how many lists lie within one another.
func depthOf(l []api.Item) int {
	depth := 0
	for ; len(l) > 0; l = l[0].Items {
		depth++
	}
	return depth
}

func TestManyPartsWithinOneAnother(t *testing.T) {
	const lists = 1 << 16
	l := nested(lists, leaf(1))
	if e := tlv.Check(l); e != api.ErrDeep {
		t.Errorf("Check tells %d", e)
	}
	if got, e := tlv.Pick(l, 1); e != api.OK || depthOf(got) != lists {
		t.Errorf("Pick tells %d lists, error %d", depthOf(got), e)
	}
	if got, ok := tlv.Get(l, 1); !ok || depthOf(items(got)) != lists {
		t.Errorf("Get tells %d lists, %v", depthOf(items(got)), ok)
	}
}

func TestManyItemsAndKinds(t *testing.T) {
	l := leaves(1 << 17)
	known := make([]int, 1<<17)
	for at := range known {
		known[at] = 1<<18 - at
	}
	if got, e := tlv.Pick(l, known...); e != api.OK || len(got) != 0 {
		t.Errorf("Pick tells %d items, error %d", len(got), e)
	}
	if e := tlv.Check(l); e != api.ErrLong {
		t.Errorf("Check tells %d", e)
	}
}

// R3

// roomy gives each list of items spare room with something in it.
func roomy(l []api.Item) []api.Item {
	all := make([]api.Item, 0, len(l)+2)
	for _, i := range l {
		i.Bytes = append(append(make([]byte, 0, len(i.Bytes)+3), i.Bytes...), 51, 52, 53)[:len(i.Bytes)]
		i.Items = roomy(i.Items)
		all = append(all, i)
	}
	return append(all, leaf(77, 1), must(list(78)))[:len(l)]
}

// whole is a list with its spare room, in other memory.
func whole(l []api.Item) []api.Item {
	var all []api.Item
	for _, i := range l[:cap(l)] {
		i.Bytes = append([]byte{}, i.Bytes[:cap(i.Bytes)]...)
		i.Items = whole(i.Items)
		all = append(all, i)
	}
	return all
}

// fill writes over a list, all within it, and their spare room.
func fill(l []api.Item) {
	l = l[:cap(l)]
	for at := range l {
		b := l[at].Bytes[:cap(l[at].Bytes)]
		for k := range b {
			b[k] = 99
		}
		fill(l[at].Items)
		l[at] = api.Item{Kind: 55, Critical: true}
	}
}

func sample() []api.Item {
	return items(leaf(1, 7, 8), must(list(2, leaf(1, 5), list(3, leaf(9, 6)), leaf(4))), leaf(3, 4), list(5))
}

func TestWhatIsHandedInStaysAsItIs(t *testing.T) {
	l := roomy(sample())
	was := whole(l)
	known := []int{5, 3, 2, 1, 9, 9}[:4]
	tlv.Check(l)
	tlv.Encode(l)
	tlv.Pick(l, known...)
	tlv.Pick(l)
	tlv.Get(l, 2)
	if !same(whole(l), was) {
		t.Errorf("the items became %v", l)
	}
	if !slices.Equal(known[:6], []int{5, 3, 2, 1, 9, 9}) {
		t.Errorf("the known Kinds became %v", known[:6])
	}
	room := []byte{4, 1, 7, 11, 0, 200, 201}
	tlv.Decode(room[:5])
	if !bytes.Equal(room, []byte{4, 1, 7, 11, 0, 200, 201}) {
		t.Errorf("the bytes became %v", room)
	}
}

func TestAnswersShareNothingWithArguments(t *testing.T) {
	l := roomy(sample())
	was := whole(l)
	picked, _ := tlv.Pick(l, 1, 2, 3, 5)
	fill(picked)
	got, _ := tlv.Get(l, 2)
	fill(items(got))
	laid, _ := tlv.Encode(l)
	for at := range laid[:cap(laid)] {
		laid[:cap(laid)][at] = 99
	}
	if !same(whole(l), was) {
		t.Errorf("an answer shares with what was handed in: %v", l)
	}
	b, _ := tlv.Encode(sample())
	wasB := bytes.Clone(b)
	read, _ := tlv.Decode(b)
	fill(read)
	if !bytes.Equal(b, wasB) {
		t.Errorf("Decode shares with what was handed in: %v", b)
	}
	read, _ = tlv.Decode(b)
	clear(b)
	if !same(read, sample()) {
		t.Errorf("Decode keeps what was handed in: %v", read)
	}
}

func TestListsOfAnAnswerShareNothing(t *testing.T) {
	shared := items(leaf(1, 7), leaf(2, 8))
	l := items(list(1, shared...), list(2, shared...), api.Item{Kind: 3, Bytes: shared[0].Bytes})
	l[0].Items, l[1].Items = shared, shared
	picked, _ := tlv.Pick(l, 1, 2, 3)
	fill(picked[0].Items)
	if !same(picked[1].Items, items(leaf(1, 7), leaf(2, 8))) || !bytes.Equal(picked[2].Bytes, []byte{7}) {
		t.Errorf("lists of Pick share: %v", picked)
	}
	b, _ := tlv.Encode(sample())
	read, _ := tlv.Decode(b)
	fill(read[1].Items)
	fill(read[:1:1])
	if want := sample(); !same(read[2:], want[2:]) {
		t.Errorf("lists of Decode share: %v", read)
	}
}

func TestSpareRoomOfAnAnswerIsItsOwn(t *testing.T) {
	b, _ := tlv.Encode(sample())
	read, _ := tlv.Decode(b)
	_ = append(read[0].Bytes, 91, 92, 93, 94, 95, 96, 97, 98)
	_ = append(read[1].Items, leaf(91), leaf(92))
	_ = append(read[1].Items[1].Items, leaf(91), leaf(92))
	if !same(read, sample()) {
		t.Errorf("what was put behind a list stands in another one: %v", read)
	}
}

// R4

func TestNoElementsAreNilOrEmpty(t *testing.T) {
	empty := items(api.Item{Kind: 1, Bytes: []byte{}, Items: []api.Item{}}, api.Item{Kind: 2, List: true, Bytes: []byte{}, Items: []api.Item{}})
	bare := items(leaf(1), list(2))
	a, aE := tlv.Encode(empty)
	b, bE := tlv.Encode(bare)
	if aE != api.OK || bE != api.OK || !bytes.Equal(a, b) {
		t.Errorf("empty lists are laid as %v, error %d, nil ones as %v, error %d", a, aE, b, bE)
	}
	for _, in := range [][]byte{nil, {}} {
		if l, e := tlv.Decode(in); e != api.OK || len(l) != 0 {
			t.Errorf("Decode of no bytes: %v, error %d", l, e)
		}
	}
	for _, l := range [][]api.Item{nil, {}} {
		if got, e := tlv.Pick(l, []int{}...); e != api.OK || len(got) != 0 || tlv.Check(l) != api.OK {
			t.Errorf("Pick of no items: %v, error %d", got, e)
		}
	}
}
