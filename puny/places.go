package puny

import "math/bits"

// places is which places of a list are marked, as sums: the element k, from 1
// on, is how many of the k & -k places up to the k-th one are. So a long list
// takes few steps a place.
type places []int

// noPlaces: a list's places, none of them marked.
func noPlaces(length int) places { return make(places, length+1) }

// allPlaces: a list's places, all of them marked.
func allPlaces(length int) places {
	p := noPlaces(length)
	for k := range p {
		p[k] = k & -k
	}
	return p
}

// add: one that isn't marked is.
func (p places) add(at int) {
	for k := at + 1; k < len(p); k += k & -k {
		p[k]++
	}
}

// before: how many marked ones there are ahead of a place.
func (p places) before(at int) int {
	n := 0
	for k := at; k > 0; k &= k - 1 {
		n += p[k]
	}
	return n
}

// take: the marked one that has so many marked ones ahead; it is marked no
// more.
func (p places) take(ahead int) int {
	at := 0
	for span := 1 << bits.Len(uint(len(p))); span > 0; span /= 2 {
		next := at + span
		switch {
		case next >= len(p):
		case p[next] <= ahead:
			ahead -= p[next]
			at = next
		default:
			p[next]-- // these sums, and no others, have the place in them
		}
	}
	return at
}
