// Package scalar is layer 1: see shared/doc/01-scalar.md.
package scalar

import (
	"slices"

	"pilcrow/api"
)

// Classes of numbers.
const (
	classNone    = 0
	classControl = 1
	classAscii   = 2
	classLatin   = 3
	classPlane   = 4
	classPrivate = 5
	classBeyond  = 6
)

// The numbers that UTF-16 needs for its pairs stand for no character.
const (
	firstSurrogate = 0xD800
	lastSurrogate  = 0xDFFF
)

// firstBeyond is the least number that doesn't fit one unit of 16 bits.
const firstBeyond = 0x10000

// Is: is a number a scalar?
func Is(c uint32) bool {
	return c <= api.Top && !within(c, firstSurrogate, lastSurrogate)
}

// First: the place of the first that is none; -1.
func First(l ...uint32) int {
	for i, c := range l {
		if !Is(c) {
			return i
		}
	}
	return -1
}

// Units: how many units of 16 bits they take.
func Units(l ...uint32) int {
	n := 0
	for _, c := range l {
		n += unitsOf(c)
	}
	return n
}

// Class: of which class a number is.
func Class(c uint32) int {
	switch {
	case !Is(c):
		return classNone
	case c <= 0x1F, within(c, 0x7F, 0x9F):
		return classControl
	case c <= 0x7E:
		return classAscii
	case c <= 0xFF:
		return classLatin
	case within(c, 0xE000, 0xF8FF):
		return classPrivate
	case c >= firstBeyond:
		return classBeyond
	}
	return classPlane
}

// Order: how two lists stand to each other.
func Order(a, b []uint32) int { return slices.Compare(a, b) }

// Join: lists, one behind the other.
func Join(l ...[]uint32) []uint32 { return slices.Concat(l...) }

func unitsOf(c uint32) int {
	switch {
	case !Is(c):
		return 0
	case c < firstBeyond:
		return 1
	}
	return 2
}

func within(c, first, last uint32) bool { return first <= c && c <= last }
