// Package samples makes what the layers' tests are fed, the same each time. The program itself doesn't use it.
package samples

import (
	"math"
	"slices"
	"strconv"
	"strings"

	"pilcrow/api"
)

// Source makes numbers without a plain order.
type Source struct{ state uint32 }

// From: a source that makes the same numbers as any other one from here.
func From(seed uint32) *Source { return &Source{state: seed} }

// Below: a number from 0 on, below n.
func (r *Source) Below(n int) int {
	r.state = r.state*1664525 + 1013904223
	return int(r.state>>8) % n
}

// Scalar: one of any size, more often one of a few that are near each other.
func (r *Source) Scalar() uint32 {
	switch r.Below(8) {
	case 0:
		return uint32(r.Below(0x20))
	case 1, 2:
		return uint32(0x20 + r.Below(0x60))
	case 3:
		return uint32(0x80 + r.Below(0x180))
	case 4:
		return uint32(0x400 + r.Below(0x100))
	case 5:
		return uint32(0x3040 + r.Below(0xA000))
	case 6:
		return uint32(0xE000 + r.Below(0x2000))
	}
	return uint32(0x10000 + r.Below(0x100000))
}

// List: so many scalars.
func (r *Source) List(n int) []uint32 {
	l := make([]uint32, n)
	for i := range l {
		l[i] = r.Scalar()
	}
	return l
}

// Sizes are scalars at the borders of what the codecs tell apart.
func Sizes() []uint32 {
	return []uint32{
		0, 1, 9, 0xA, 0xD, 0x1F, 0x20, 0x21, 0x2D, 0x40, 0x41, 0x7A, 0x7E, 0x7F, 0x80, 0x9F, 0xA0, 0xBF, 0xC0, 0xE9, 0xFF, 0x100,
		0x3FF, 0x400, 0x416, 0x7FF, 0x800, 0x20AC, 0x3041, 0x3FFF, 0x4000, 0x4E00, 0xAC00, 0xD7FF, 0xE000, 0xF2FF, 0xF300, 0xFEFF,
		0xFFFD, 0xFFFE, 0xFFFF, 0x10000, 0x1F600, 0x3FFFF, 0x40000, 0xFFFFF, 0x100000, 0x10FFFE, 0x10FFFF,
	}
}

// NoCodecs are numbers of no codecs.
func NoCodecs() []int {
	l := []int{
		0, -1, api.Codecs + 1, api.Codecs + 2, 15, 16, 17, 32, 255, 256, 257, 1 << 16, 1 << 31, 1 << 32, 1 << 62,
		math.MinInt, math.MinInt32, math.MaxInt32, math.MaxInt - 1, math.MaxInt,
	}
	for c := 1; c <= api.Codecs; c++ {
		l = append(l, -c, api.Codecs+c, 1<<8+c, 1<<16+c, 1<<32+c, math.MinInt+c, math.MaxInt-c)
	}
	return l
}

// NoScalars are numbers that are none.
func NoScalars() []uint32 {
	return []uint32{0xD800, 0xDBFF, 0xDC00, 0xDFFF, 0x110000, 0x110041, 0x200000, 0x7FFFFFFF, 0x80000041, 0xFFFFFFFF}
}

// Roomy: a list with spare room, and all of it.
func Roomy[T any](l []T, spare T) (list, all []T) {
	all = append(slices.Clone(l), spare, spare, spare)
	return all[:len(l)], all
}

// Spoil writes into a list, and into its spare room.
func Spoil[T any](l []T, by T) {
	l = l[:cap(l)]
	for i := range l {
		l[i] = by
	}
}

// Burst: a text with a burst of so many bits from a bit on: the first and the
// last of them are turned, and any between.
func Burst(s string, from, bits int, between uint32) string {
	b := []byte(s)
	turned := uint64(between)<<1&(1<<bits-1) | 1 | 1<<(bits-1)
	for i := range bits {
		if turned>>i&1 == 1 {
			b[(from+i)/8] ^= 1 << ((from + i) % 8)
		}
	}
	return string(b)
}

// Hex: a list's beginning, for a message.
func Hex(l []uint32) string {
	words := make([]string, 0, 30)
	for _, a := range l[:min(len(l), 30)] {
		words = append(words, strings.ToUpper(strconv.FormatUint(uint64(a), 16)))
	}
	return "[" + strings.Join(words, " ") + "]"
}
