package puny

import (
	"cmp"
	"slices"
	"strings"

	"pilcrow/api"
	"pilcrow/bias"
	"pilcrow/scalar"
)

const (
	limit     = 0x80 // basic scalars are below it
	hyphen    = '-'
	firstBias = 72
)

// cursor is what a number is counted from; the same of a text that is read and
// of one that is written.
type cursor struct {
	n, i   uint64 // the scalar, and the place behind the one where it was put in
	length uint64 // of the list
	bias   int
	moved  bool
}

// begin: ahead of the first number.
func begin(basic int) cursor {
	return cursor{n: limit, length: uint64(basic), bias: firstBias}
}

// move: a scalar is put into the list by a number.
func (c *cursor) move(delta uint64) {
	c.length++
	// Neither sum wraps round: delta is 2^62 at most, and of the others none is near it.
	c.i += delta
	c.n += c.i / c.length
	c.i = c.i%c.length + 1
	c.bias = bias.Adapt(delta, c.length, !c.moved)
	c.moved = true
}

// delta: the number by which a scalar is put in at a place.
func (c *cursor) delta(next uint32, place int) uint64 {
	return (uint64(next)-c.n)*(c.length+1) + uint64(place) - c.i
}

// onScalar: did the last number lead to a scalar?
func (c *cursor) onScalar() bool { return c.n <= api.Top && scalar.Is(uint32(c.n)) }

// entry is a scalar, and the place at which it is put into the list as that is
// then.
type entry struct {
	c     uint32
	place int
}

// basicAhead: how many bytes stand ahead of the first one that isn't basic.
func basicAhead(s string) int {
	for i := range len(s) {
		if s[i] >= limit {
			return i
		}
	}
	return len(s)
}

// denoted: the scalars that a text of basic bytes denotes, and whether it denotes
// something.
func denoted(s string) ([]uint32, bool) {
	basic, digits := "", s
	if cut := strings.LastIndexByte(s, hyphen); cut > 0 {
		basic, digits = s[:cut], s[cut+1:]
	}
	l, ok := entries(digits, len(basic))
	if !ok {
		return nil, false
	}
	return filled(basic, l), true
}

// entries: what the digits put into a list of so many basic scalars.
func entries(digits string, basic int) ([]entry, bool) {
	var l []entry
	c := begin(basic)
	for at := 0; at < len(digits); {
		delta, next, err := bias.Get(digits, at, c.bias)
		if err != api.OK {
			return nil, false
		}
		c.move(delta)
		if !c.onScalar() {
			return nil, false
		}
		l = append(l, entry{c: uint32(c.n), place: int(c.i) - 1})
		at = next
	}
	return l, true
}

// filled: the basic scalars with the others put in. It begins with the last
// one, whose place is the one where it stays; what was put in ahead of it has
// its place among those that are free then. So nothing is moved.
func filled(basic string, l []entry) []uint32 {
	out := make([]uint32, len(basic)+len(l))
	free := allPlaces(len(out))
	for k := len(l) - 1; k >= 0; k-- {
		out[free.take(l[k].place)] = l[k].c
	}
	for k := range len(basic) {
		out[free.take(0)] = uint32(basic[k])
	}
	return out
}

// textOf: the text of a list of scalars.
func textOf(l []uint32) string {
	var text strings.Builder
	var others []int
	in := noPlaces(len(l))
	for at, c := range l {
		if c < limit {
			text.WriteByte(byte(c))
			in.add(at)
		} else {
			others = append(others, at)
		}
	}
	basic := text.Len()
	if basic > 0 {
		text.WriteByte(hyphen)
	}
	slices.SortFunc(others, func(a, b int) int {
		return cmp.Or(cmp.Compare(l[a], l[b]), cmp.Compare(a, b))
	})
	c := begin(basic)
	for _, at := range others {
		delta := c.delta(l[at], in.before(at))
		text.WriteString(bias.Put(delta, c.bias))
		c.move(delta)
		in.add(at)
	}
	return text.String()
}
