package crate_test

import (
	"slices"
	"strings"
	"testing"

	"pilcrow/api"
	"pilcrow/crate"
	"pilcrow/samples"
)

// newWriter: NewWriter's.
func newWriter(t *testing.T, c, size int) *crate.Writer {
	t.Helper()
	w, err := crate.NewWriter(c, size)
	if err != api.OK || w == nil {
		t.Fatalf("NewWriter(%d, %d): %d", c, size, err)
	}
	return w
}

// adds: Add answers these bytes, or this Fail and none.
func adds(t *testing.T, w *crate.Writer, l []uint32, want string, f api.Fail) {
	t.Helper()
	if s, got := w.Add(l...); s != want || got != f {
		t.Errorf("Add(%s), %d numbers: %.40X, %d bytes, %v, not %.40X, %d bytes, %v", samples.Hex(l), len(l), s, len(s), got, want, len(want), f)
	}
}

// closes: Close answers these bytes, or this error and none.
func closes(t *testing.T, w *crate.Writer, want string, err api.Errno) {
	t.Helper()
	if s, got := w.Close(); s != want || got != err {
		t.Errorf("Close(): %.80X, %d bytes, %d, not %.80X, %d bytes, %d", s, len(s), got, want, len(want), err)
	}
}

// pieces are a crate's bytes, parted: the head, the bytes of each block that
// is full, and what is left.
func pieces(c api.Crate) (head string, blocks []string, rest string) {
	s := spelt(c)
	at := 14
	for _, b := range c.Blocks {
		if b.Count < c.Size {
			break
		}
		behind := at + 13 + len(b.Payload)
		blocks = append(blocks, s[at:behind])
		at = behind
	}
	return s[:14], blocks, s[at:]
}

// isWritten: a writer that is fed a list in these parts tells with each what
// the chapter says.
func isWritten(t *testing.T, c, size int, l []uint32, parts []int) {
	t.Helper()
	head, blocks, rest := pieces(crateOf(c, size, l...))
	w := newWriter(t, c, size)
	added := 0
	for _, n := range parts {
		full := (added + n) / size
		adds(t, w, l[added:added+n], head+strings.Join(blocks[added/size:full], ""), right)
		head = ""
		added += n
	}
	if added != len(l) {
		t.Fatalf("the parts have %d scalars, not %d", added, len(l))
	}
	closes(t, w, head+rest, api.OK)
}

// every: parts of n scalars that have so many each, but for the last one.
func every(size, n int) []int {
	var parts []int
	for n > 0 {
		parts = append(parts, min(size, n))
		n -= min(size, n)
	}
	return parts
}

func TestP214NewWriterErrors(t *testing.T) {
	isNone := func(c, size int, want api.Errno) {
		if w, err := crate.NewWriter(c, size); w != nil || err != want {
			t.Errorf("NewWriter(%d, %d): %v %d, not %d", c, size, w, err, want)
		}
	}
	for _, c := range samples.NoCodecs() {
		for _, size := range append(noSizes(), 1, 2, mostScalars) {
			isNone(c, size, api.ErrCodec)
		}
	}
	for c := 1; c <= api.Codecs; c++ {
		for _, size := range noSizes() {
			isNone(c, size, api.ErrCount)
		}
	}
}

func TestP214Parts(t *testing.T) {
	r := samples.From(214)
	for c := 1; c <= api.Codecs; c++ {
		for _, size := range []int{1, 2, 3, 7, 1000, mostScalars} {
			for _, n := range []int{0, 1, 2, 3, 6, 7, 8, 14, 15, 21, 40} {
				l := r.List(n)
				isWritten(t, c, size, l, amidNone(n))
				for part := 1; part <= n+1; part++ {
					isWritten(t, c, size, l, every(part, n))
				}
				for range 5 {
					isWritten(t, c, size, l, anyParts(r, n))
				}
			}
		}
	}
}

// amidNone: all of n at once, between parts that are empty.
func amidNone(n int) []int { return []int{0, 0, n, 0} }

// anyParts: parts of n scalars, of any sizes, some of them empty.
func anyParts(r *samples.Source, n int) []int {
	var parts []int
	for n > 0 {
		part := r.Below(min(n, 9) + 1)
		parts = append(parts, part)
		n -= part
	}
	return parts
}

// Parts that just fill a block, that fill several, and one more or less.
func TestP214PartsAroundABlock(t *testing.T) {
	r := samples.From(2141)
	for c := 1; c <= api.Codecs; c++ {
		for _, size := range []int{2, 5, 300} {
			for _, parts := range [][]int{
				{size}, {size, size}, {2 * size}, {size - 1, 1}, {size - 1, 2}, {1, size - 1}, {size + 1}, {size + 1, size - 1}, {3*size + 1, 2 * size, size - 1},
				{size - 1, 2*size + 2}, {1, 3 * size}, {size, 0, size, 0, 1}, {0, size - 1, 0, 1, 0}, {2*size - 1, 1, 1},
			} {
				n := 0
				for _, part := range parts {
					n += part
				}
				isWritten(t, c, size, r.List(n), parts)
			}
		}
	}
}

func TestP214BlocksOfMostScalars(t *testing.T) {
	r := samples.From(2142)
	for c := 1; c <= api.Codecs; c++ {
		l := slices.Repeat(r.List(32), 2*mostScalars/32+1)
		for _, parts := range [][]int{
			{mostScalars}, {mostScalars - 1}, {mostScalars - 1, 1}, {mostScalars + 1}, {2 * mostScalars}, {1, mostScalars, mostScalars - 1, 3}, every(20000, 2*mostScalars+7),
		} {
			n := 0
			for _, part := range parts {
				n += part
			}
			isWritten(t, c, mostScalars, l[:n], parts)
		}
	}
}

// What single calls tell, written out.
func TestP214WhatIsTold(t *testing.T) {
	head := headOf(1, 1, 2)
	ab, cd, e := blockOf(2, 2, sumOf("AB"), "AB"), blockOf(2, 2, sumOf("CD"), "CD"), blockOf(1, 1, sumOf("E"), "E")

	w := newWriter(t, api.Utf8, 2)
	closes(t, w, head+endOf(0, 0, 0), api.OK)

	w = newWriter(t, api.Utf8, 2)
	adds(t, w, nil, head, right)
	adds(t, w, []uint32{}, "", right)
	closes(t, w, endOf(0, 0, 0), api.OK)

	w = newWriter(t, api.Utf8, 2)
	adds(t, w, []uint32{0x41}, head, right)
	adds(t, w, nil, "", right)
	adds(t, w, []uint32{0x42}, ab, right)
	adds(t, w, nil, "", right)
	adds(t, w, []uint32{0x43}, "", right)
	adds(t, w, []uint32{0x44, 0x45}, cd, right)
	closes(t, w, e+endOf(3, 5, 5), api.OK)

	w = newWriter(t, api.Utf8, 2)
	adds(t, w, []uint32{0x41, 0x42, 0x43, 0x44}, head+ab+cd, right)
	closes(t, w, endOf(2, 4, 4), api.OK)

	w = newWriter(t, api.Utf8, 2)
	adds(t, w, []uint32{0x41, 0x42, 0x43, 0x44, 0x45}, head+ab+cd, right)
	closes(t, w, e+endOf(3, 5, 5), api.OK)
}

// Where a number is no scalar nothing is added, and all goes on as it was.
func TestP214AddNoScalars(t *testing.T) {
	for c := 1; c <= api.Codecs; c++ {
		for _, bad := range samples.NoScalars() {
			for _, size := range []int{1, 2, 3, mostScalars} {
				l := []uint32{0x416, 0x41, 0x4E00, 0x1F600, 0x0A}
				head, blocks, rest := pieces(crateOf(c, size, l...))
				w := newWriter(t, c, size)
				for i, a := range l {
					adds(t, w, []uint32{bad}, "", fail(api.ErrScalar, 0))
					adds(t, w, []uint32{0x41, 0x42, 0x43, bad, 0x44, 0xD800}, "", fail(api.ErrScalar, 3))
					adds(t, w, []uint32{0x41, bad, bad}, "", fail(api.ErrScalar, 1))
					told := head
					if (i+1)%size == 0 {
						told += blocks[i/size]
					}
					adds(t, w, []uint32{a}, told, right)
					head = ""
				}
				adds(t, w, []uint32{0x41, bad}, "", fail(api.ErrScalar, 1))
				closes(t, w, rest, api.OK)
			}
		}
	}
	w := newWriter(t, api.Utf8, 1)
	adds(t, w, []uint32{0xD800}, "", fail(api.ErrScalar, 0))
	closes(t, w, headOf(1, 1, 1)+endOf(0, 0, 0), api.OK)
	many := slices.Repeat([]uint32{0x41}, 2*mostScalars+1)
	many[2*mostScalars] = 0x110000
	adds(t, newWriter(t, api.Utf8, mostScalars), many, "", fail(api.ErrScalar, 2*mostScalars))
}

func TestP214BehindClose(t *testing.T) {
	for c := 1; c <= api.Codecs; c++ {
		for _, l := range [][]uint32{nil, {0x41}, {0x41, 0x416}, {0x41, 0x416, 0x4E00}} {
			w := newWriter(t, c, 2)
			head, blocks, rest := pieces(crateOf(c, 2, l...))
			adds(t, w, l, head+strings.Join(blocks, ""), right)
			closes(t, w, rest, api.OK)
			for range 3 {
				for _, more := range [][]uint32{nil, {}, {0x41}, {0xD800}, {0x41, 0x110000}, slices.Repeat([]uint32{0x41}, 1000)} {
					adds(t, w, more, "", fail(api.ErrMore, 0))
				}
				closes(t, w, "", api.ErrMore)
			}
		}
	}
	w := newWriter(t, api.Puny, 7)
	closes(t, w, headOf(1, 7, 7)+endOf(0, 0, 0), api.OK)
	closes(t, w, "", api.ErrMore)
	adds(t, w, nil, "", fail(api.ErrMore, 0))
}

func TestP214TwoWriters(t *testing.T) {
	r := samples.From(2143)
	for c := 1; c <= api.Codecs; c++ {
		other := c%api.Codecs + 1
		l, m := r.List(50), r.List(50)
		v, w := newWriter(t, c, 3), newWriter(t, other, 4)
		again := newWriter(t, c, 3)
		var vs, ws, as strings.Builder
		for i := range l {
			s, _ := v.Add(l[i])
			vs.WriteString(s)
			s, _ = w.Add(m[i])
			ws.WriteString(s)
			s, _ = again.Add(m[i], l[i])
			as.WriteString(s)
		}
		s, _ := w.Close()
		ws.WriteString(s)
		s, _ = v.Close()
		vs.WriteString(s)
		s, _ = again.Close()
		as.WriteString(s)
		both := make([]uint32, 0, 100)
		for i := range l {
			both = append(both, m[i], l[i])
		}
		for _, x := range []struct{ got, want string }{
			{vs.String(), spelt(crateOf(c, 3, l...))}, {ws.String(), spelt(crateOf(other, 4, m...))}, {as.String(), spelt(crateOf(c, 3, both...))},
		} {
			if x.got != x.want {
				t.Errorf("%d, %d: %.60X, not %.60X", c, other, x.got, x.want)
			}
		}
	}
}

// However scalars come to a writer, its bytes together are Pack's.
func TestP215AWritersBytesArePacks(t *testing.T) {
	r := samples.From(2151)
	for c := 1; c <= api.Codecs; c++ {
		for _, l := range append(lists(), r.List(5000)) {
			for _, size := range []int{1, 3, 100, mostScalars} {
				want := packed(t, c, size, l...)
				for _, parts := range [][]int{every(1, len(l)), every(size, len(l)), every(size+1, len(l)), anyParts(r, len(l))} {
					w := newWriter(t, c, size)
					var all strings.Builder
					at := 0
					for _, n := range parts {
						s, _ := w.Add(l[at : at+n]...)
						all.WriteString(s)
						at += n
					}
					s, _ := w.Close()
					all.WriteString(s)
					if all.String() != want {
						t.Errorf("%d, %d, %s: %d bytes, not Pack's %d", c, size, samples.Hex(l), all.Len(), len(want))
					}
				}
			}
		}
	}
}

func TestP214OneByOneOfMany(t *testing.T) {
	l := slices.Repeat([]uint32{0x41, 0x416, 0x4E00}, 2*mostScalars/3)
	isWritten(t, api.Bocu, mostScalars, l, every(1, len(l)))
	isWritten(t, api.Bocu, 1, l, every(1, len(l)))
}

func TestWhatAWriterIsHandedStays(t *testing.T) {
	for c := 1; c <= api.Codecs; c++ {
		for _, l := range lists() {
			w := newWriter(t, c, 4)
			var all strings.Builder
			for part := range slices.Chunk(l, 3) {
				list, whole := samples.Roomy(part, 0xDEAD)
				was := slices.Clone(whole)
				s, _ := w.Add(list...)
				all.WriteString(s)
				if !slices.Equal(whole, was) {
					t.Errorf("%d: Add(%s): the list isn't what it was", c, samples.Hex(part))
				}
				samples.Spoil(list, 0xBEEF)
			}
			if len(l) == 0 {
				s, _ := w.Add()
				all.WriteString(s)
			}
			s, _ := w.Close()
			all.WriteString(s)
			if want := spelt(crateOf(c, 4, l...)); all.String() != want {
				t.Errorf("%d: %s: %.60X, not %.60X", c, samples.Hex(l), all.String(), want)
			}
		}
	}
}

// A list that fills blocks just so isn't kept, either.
func TestWhatFillsBlocksIsNotKept(t *testing.T) {
	w := newWriter(t, api.Utf8, 2)
	head, blocks, rest := pieces(crateOf(api.Utf8, 2, 0x41, 0x42, 0x43, 0x44, 0x45, 0x46, 0x47))
	l := []uint32{0x41, 0x42, 0x43}
	adds(t, w, l, head+blocks[0], right)
	samples.Spoil(l, 0xD800)
	l = []uint32{0x44, 0x45, 0x46, 0x47}
	adds(t, w, l, blocks[1]+blocks[2], right)
	samples.Spoil(l, 0xD800)
	closes(t, w, rest, api.OK)
}
