package window_test

import (
	"math"
	"testing"

	"pilcrow/window"
)

var (
	statics  = [8]uint32{0, 0x80, 0x100, 0x300, 0x2000, 0x2080, 0x2100, 0x3000}
	dynamics = [8]uint32{0x80, 0xC0, 0x400, 0x600, 0x900, 0x3040, 0x30A0, 0xFF00}
)

// strange are numbers of which none is a window's.
var strange = []int{
	-1, -2, -7, -8, -9, -255, -256, -1 << 32, 8, 9, 15, 16, 17, 31, 32, 64, 127, 128, 255, 256, 257, 263, 264, 1 << 16,
	1 << 32, 1<<32 + 7, math.MinInt8, math.MinInt32, math.MaxInt32, math.MinInt, math.MinInt + 1, math.MaxInt - 7, math.MaxInt,
}

// greatest is the greatest number that a window may be asked for.
const greatest = math.MaxUint32

// within: the chapter's words of a window, counted where none of its numbers
// is too great.
func within(offset, c uint32) bool {
	return uint64(c) >= uint64(offset) && uint64(c) < uint64(offset)+0x80
}

// row is what an index stands for.
type row struct {
	x      byte
	offset uint32
}

// rows: all indexes by the chapter's words, in the order in which they are
// looked through.
func rows() []row {
	out := []row{{0xF9, 0xC0}, {0xFA, 0x250}, {0xFB, 0x370}, {0xFC, 0x530}, {0xFD, 0x3040}, {0xFE, 0x30A0}, {0xFF, 0xFF60}}
	for x := uint32(0x01); x <= 0x67; x++ {
		out = append(out, row{byte(x), 0x80 * x})
	}
	for x := uint32(0x68); x <= 0xA7; x++ {
		out = append(out, row{byte(x), 0x80*x + 0xAC00})
	}
	return out
}

// pick is an index, or none.
type pick struct {
	x  byte
	ok bool
}

func indexed(c uint32) pick {
	x, ok := window.Index(c)
	return pick{x, ok}
}

// wanted: a number's index by the chapter's words.
func wanted(all []row, c uint32) pick {
	if c < 0x10000 {
		for _, r := range all {
			if within(r.offset, c) {
				return pick{r.x, true}
			}
		}
	}
	return pick{}
}

// pair is what Pair answers.
type pair struct {
	h, l byte
	ok   bool
}

func paired(w int, c uint32) pair {
	h, l, ok := window.Pair(w, c)
	return pair{h, l, ok}
}

// found is a window's number, or none.
type found struct {
	n  int
	ok bool
}

func look(w *window.Windows, c uint32) found {
	n, ok := w.Find(c)
	return found{n, ok}
}

// offsets: those of all windows.
func offsets(w *window.Windows) (out [8]uint32) {
	for n := range out {
		out[n] = w.At(n)
	}
	return out
}

// ages: all windows in the order of their use; that is the same behind it,
// since each one is touched once, in that order.
func ages(w *window.Windows) (out [8]int) {
	for i := range out {
		out[i] = w.Oldest()
		w.Touch(out[i])
	}
	return out
}

func TestExamples(t *testing.T) {
	for _, x := range []struct {
		c    uint32
		want pick
	}{{0xE9, pick{0xF9, true}}, {0x3B1, pick{0xFB, true}}, {0x3042, pick{0xFD, true}}, {0x4E00, pick{}}, {0xE000, pick{0x68, true}}} {
		if got := indexed(x.c); got != x.want {
			t.Errorf("Index(%X): %v", x.c, got)
		}
	}
	if n, offset := window.Extended(0x7F, 0xFF); n != 3 || offset != 0x10FF80 {
		t.Errorf("Extended(7F, FF): %d, %X", n, offset)
	}
}

func TestP131Holds(t *testing.T) {
	starts := []uint32{
		0, 1, 2, 0x7F, 0x80, 0x81, 0xC0, 0xFF60, 0xFFFF, 0x10000, 0x10FF80, 1<<31 - 0x80, 1<<31 - 1, 1 << 31,
		greatest - 0x100, greatest - 0x81, greatest - 0x80, greatest - 0x7F, greatest - 0x7E, greatest - 1, greatest,
	}
	steps := []uint32{0, 1, 2, 0x3F, 0x40, 0x7E, 0x7F, 0x80, 0x81, 0xFF, 0x100, 0x8000, 1 << 31}
	for _, offset := range starts {
		for _, by := range steps {
			// Above and below it, around all numbers, too.
			for _, c := range []uint32{offset + by, offset - by, by, greatest - by} {
				if got := window.Holds(offset, c); got != within(offset, c) {
					t.Errorf("Holds(%X, %X): %v", offset, c, got)
				}
			}
		}
	}
}

func TestP131HoldsKnown(t *testing.T) {
	for _, x := range []struct {
		offset, c uint32
		want      bool
	}{
		{0, 0, true}, {0, 0x7F, true}, {0, 0x80, false}, {0, greatest, false},
		{1, 0, false}, {1, 1, true}, {1, 0x80, true}, {1, 0x81, false},
		{0xC0, 0xBF, false}, {0xC0, 0xC0, true}, {0xC0, 0x13F, true}, {0xC0, 0x140, false},
		{0x10FF80, 0x10FF7F, false}, {0x10FF80, 0x10FFFF, true}, {0x10FF80, 0x110000, false},
		{greatest - 0x7F, greatest - 0x80, false}, {greatest - 0x7F, greatest - 0x7F, true}, {greatest - 0x7F, greatest, true}, {greatest - 0x7F, 0, false},
		{greatest, greatest - 1, false}, {greatest, greatest, true}, {greatest, 0, false}, {greatest, 0x7E, false},
	} {
		if got := window.Holds(x.offset, x.c); got != x.want {
			t.Errorf("Holds(%X, %X): %v", x.offset, x.c, got)
		}
	}
}

func TestP131Static(t *testing.T) {
	for n, want := range statics {
		if got, ok := window.Static(n); got != want || !ok {
			t.Errorf("Static(%d): %X, %v", n, got, ok)
		}
	}
	for _, n := range strange {
		if got, ok := window.Static(n); got != 0 || ok {
			t.Errorf("Static(%d): %X, %v", n, got, ok)
		}
	}
}

func TestP131Offset(t *testing.T) {
	var want [256]uint32
	for _, r := range rows() {
		want[r.x] = r.offset
	}
	for i := range 256 {
		// No index stands for 0.
		if got, ok := window.Offset(byte(i)); got != want[i] || ok != (want[i] != 0) {
			t.Errorf("Offset(%02X): %X, %v", i, got, ok)
		}
	}
}

func TestP131OffsetKnown(t *testing.T) {
	for _, x := range []struct {
		x    byte
		want uint32
		ok   bool
	}{
		{0x00, 0, false}, {0x01, 0x80, true}, {0x02, 0x100, true}, {0x66, 0x3300, true}, {0x67, 0x3380, true},
		{0x68, 0xE000, true}, {0x69, 0xE080, true}, {0xA6, 0xFF00, true}, {0xA7, 0xFF80, true},
		{0xA8, 0, false}, {0xC0, 0, false}, {0xF8, 0, false},
		{0xF9, 0xC0, true}, {0xFA, 0x250, true}, {0xFB, 0x370, true}, {0xFC, 0x530, true},
		{0xFD, 0x3040, true}, {0xFE, 0x30A0, true}, {0xFF, 0xFF60, true},
	} {
		if got, ok := window.Offset(x.x); got != x.want || ok != x.ok {
			t.Errorf("Offset(%02X): %X, %v", x.x, got, ok)
		}
	}
}

func TestP132IndexKnown(t *testing.T) {
	for _, x := range []struct {
		c    uint32
		want pick
	}{
		{0, pick{}}, {0x41, pick{}}, {0x7F, pick{}}, {0x80, pick{0x01, true}}, {0xBF, pick{0x01, true}},
		{0xC0, pick{0xF9, true}}, {0x13F, pick{0xF9, true}}, {0x140, pick{0x02, true}}, {0x17F, pick{0x02, true}}, {0x180, pick{0x03, true}},
		{0x24F, pick{0x04, true}}, {0x250, pick{0xFA, true}}, {0x2CF, pick{0xFA, true}}, {0x2D0, pick{0x05, true}},
		{0x36F, pick{0x06, true}}, {0x370, pick{0xFB, true}}, {0x3EF, pick{0xFB, true}}, {0x3F0, pick{0x07, true}},
		{0x400, pick{0x08, true}}, {0x52F, pick{0x0A, true}}, {0x530, pick{0xFC, true}}, {0x5AF, pick{0xFC, true}}, {0x5B0, pick{0x0B, true}},
		{0x303F, pick{0x60, true}}, {0x3040, pick{0xFD, true}}, {0x309F, pick{0xFD, true}},
		// FD and FE hold these both: FD is looked at first.
		{0x30A0, pick{0xFD, true}}, {0x30BF, pick{0xFD, true}}, {0x30C0, pick{0xFE, true}}, {0x311F, pick{0xFE, true}}, {0x3120, pick{0x62, true}},
		{0x337F, pick{0x66, true}}, {0x3380, pick{0x67, true}}, {0x33FF, pick{0x67, true}}, {0x3400, pick{}}, {0x3401, pick{}},
		{0x9FFF, pick{}}, {0xAC00, pick{}}, {0xD7FF, pick{}}, {0xD800, pick{}}, {0xDFFF, pick{}},
		{0xE000, pick{0x68, true}}, {0xE07F, pick{0x68, true}}, {0xE080, pick{0x69, true}},
		{0xFEFF, pick{0xA5, true}}, {0xFF00, pick{0xA6, true}}, {0xFF5F, pick{0xA6, true}}, {0xFF60, pick{0xFF, true}}, {0xFFDF, pick{0xFF, true}},
		{0xFFE0, pick{0xA7, true}}, {0xFFFF, pick{0xA7, true}},
		{0x10000, pick{}}, {0x10001, pick{}}, {0x10080, pick{}}, {0x100C0, pick{}}, {0x13042, pick{}}, {0x1F600, pick{}}, {0x10FFFF, pick{}}, {0x110000, pick{}},
		{1<<31 - 1, pick{}}, {1 << 31, pick{}}, {1<<31 + 0xC0, pick{}}, {greatest - 0x7F, pick{}}, {greatest, pick{}},
	} {
		if got := indexed(x.c); got != x.want {
			t.Errorf("Index(%X): %v", x.c, got)
		}
	}
}

func TestP132IndexAll(t *testing.T) {
	all := rows()
	for c := uint32(0); c < 0x120000; c++ {
		if got, want := indexed(c), wanted(all, c); got != want {
			t.Fatalf("Index(%X): %v, not %v", c, got, want)
		}
	}
}

// An index's window holds what has that index.
func TestP132IndexHolds(t *testing.T) {
	for c := uint32(0); c < 0x10000; c++ {
		x, ok := window.Index(c)
		if !ok {
			continue
		}
		if offset, is := window.Offset(x); !is || !window.Holds(offset, c) {
			t.Fatalf("Index(%X): %02X, of %X", c, x, offset)
		}
	}
}

func TestP132ExtendedKnown(t *testing.T) {
	for _, x := range []struct {
		h, l   byte
		n      int
		offset uint32
	}{
		{0x00, 0x00, 0, 0x10000}, {0x00, 0x01, 0, 0x10080}, {0x00, 0xFF, 0, 0x17F80}, {0x01, 0x00, 0, 0x18000}, {0x01, 0xEC, 0, 0x1F600},
		{0x1F, 0xFF, 0, 0x10FF80}, {0x20, 0x00, 1, 0x10000}, {0x9F, 0x00, 4, 0x108000}, {0xA1, 0xEC, 5, 0x1F600},
		{0xE0, 0x00, 7, 0x10000}, {0xFF, 0xFF, 7, 0x10FF80},
	} {
		if n, offset := window.Extended(x.h, x.l); n != x.n || offset != x.offset {
			t.Errorf("Extended(%02X, %02X): %d, %X", x.h, x.l, n, offset)
		}
	}
}

// All windows, and all offsets from 10000 on, each by two bytes of its own; and
// back, by the first and the last number of the window.
func TestP132ThereAndBack(t *testing.T) {
	at := 0
	for n := range 8 {
		for offset := uint32(0x10000); offset < 0x110000; offset += 0x80 {
			h, l := byte(at>>8), byte(at)
			at++
			if gotN, got := window.Extended(h, l); gotN != n || got != offset {
				t.Fatalf("Extended(%02X, %02X): %d, %X, not %d, %X", h, l, gotN, got, n, offset)
			}
			for _, c := range []uint32{offset, offset + 0x3F, offset + 0x7F} {
				if got := paired(n, c); got != (pair{h, l, true}) {
					t.Fatalf("Pair(%d, %X): %v", n, c, got)
				}
			}
		}
	}
	if at != 0x10000 {
		t.Error(at)
	}
}

func TestP132PairBounds(t *testing.T) {
	for _, x := range []struct {
		n    int
		c    uint32
		want pair
	}{
		{0, 0x10000, pair{0x00, 0x00, true}}, {0, 0x10001, pair{0x00, 0x00, true}}, {0, 0x1007F, pair{0x00, 0x00, true}}, {0, 0x10080, pair{0x00, 0x01, true}},
		{0, 0x17FFF, pair{0x00, 0xFF, true}}, {0, 0x18000, pair{0x01, 0x00, true}},
		{7, 0x10000, pair{0xE0, 0x00, true}}, {5, 0x1F600, pair{0xA1, 0xEC, true}}, {0, 0x1F67F, pair{0x01, 0xEC, true}},
		{3, 0x10FF80, pair{0x7F, 0xFF, true}}, {3, 0x10FFFF, pair{0x7F, 0xFF, true}}, {7, 0x10FFFF, pair{0xFF, 0xFF, true}}, {0, 0x10FF7F, pair{0x1F, 0xFE, true}},
	} {
		if got := paired(x.n, x.c); got != x.want {
			t.Errorf("Pair(%d, %X): %v", x.n, x.c, got)
		}
	}
	for n := range 8 {
		for _, c := range []uint32{0, 0x41, 0x80, 0x3042, 0x8000, 0xD800, 0xFF7F, 0xFF80, 0xFFFE, 0xFFFF, 0x110000, 0x110001, 0x11007F, 0x120000, 1 << 31, 1<<31 + 0x10000, greatest - 0x7F, greatest} {
			if got := paired(n, c); got != (pair{}) {
				t.Errorf("Pair(%d, %X): %v", n, c, got)
			}
		}
	}
	for _, n := range strange {
		for _, c := range []uint32{0, 0xFFFF, 0x10000, 0x10080, 0x1F600, 0x10FFFF, 0x110000, greatest} {
			if got := paired(n, c); got != (pair{}) {
				t.Errorf("Pair(%d, %X): %v", n, c, got)
			}
		}
	}
}

func TestP133Beginning(t *testing.T) {
	w := window.New()
	if got := offsets(w); got != dynamics {
		t.Errorf("%X", got)
	}
	if got := w.Oldest(); got != 7 {
		t.Error(got)
	}
	if got := ages(w); got != [8]int{7, 6, 5, 4, 3, 2, 1, 0} {
		t.Error(got)
	}
	for _, x := range []struct {
		c    uint32
		want found
	}{
		{0, found{}}, {0x7F, found{}}, {0x80, found{0, true}}, {0xBF, found{0, true}},
		// The windows 0 and 1 hold these both.
		{0xC0, found{0, true}}, {0xFF, found{0, true}}, {0x100, found{1, true}}, {0x13F, found{1, true}}, {0x140, found{}},
		{0x3FF, found{}}, {0x400, found{2, true}}, {0x47F, found{2, true}}, {0x480, found{}},
		{0x600, found{3, true}}, {0x67F, found{3, true}}, {0x680, found{}}, {0x900, found{4, true}}, {0x97F, found{4, true}}, {0x980, found{}},
		{0x303F, found{}}, {0x3040, found{5, true}}, {0x30A0, found{5, true}}, {0x30BF, found{5, true}}, {0x30C0, found{6, true}}, {0x311F, found{6, true}}, {0x3120, found{}},
		{0xFEFF, found{}}, {0xFF00, found{7, true}}, {0xFF7F, found{7, true}}, {0xFF80, found{}},
		{0x10080, found{}}, {0x10FFFF, found{}}, {1 << 31, found{}}, {greatest, found{}},
	} {
		if got := look(w, x.c); got != x.want {
			t.Errorf("Find(%X): %v", x.c, got)
		}
	}
}

func TestP133Set(t *testing.T) {
	for n := range 8 {
		for _, offset := range []uint32{0, 1, 0x80, 0x1F600, 0x10FF80, 1 << 31, greatest - 0x7F, greatest} {
			w := window.New()
			w.Set(n, offset)
			want := dynamics
			want[n] = offset
			if got := offsets(w); got != want {
				t.Errorf("Set(%d, %X): %X", n, offset, got)
			}
			if got := ages(w); got != [8]int{7, 6, 5, 4, 3, 2, 1, 0} {
				t.Errorf("Set(%d, %X): used %v", n, offset, got)
			}
		}
	}
}

func TestP133SetAgain(t *testing.T) {
	w := window.New()
	w.Set(3, 0x1F600)
	w.Set(3, 0x2000)
	w.Set(3, 0x2000)
	if got := w.At(3); got != 0x2000 {
		t.Errorf("%X", got)
	}
	if got := look(w, 0x1F600); got != (found{}) {
		t.Error(got)
	}
	if got := look(w, 0x600); got != (found{}) {
		t.Error(got)
	}
	if got := look(w, 0x207F); got != (found{3, true}) {
		t.Error(got)
	}
}

// A number that is no window changes nothing, whatever was done ahead.
func TestP133Strange(t *testing.T) {
	w := window.New()
	w.Set(2, 0x1F600)
	w.Touch(7)
	w.Touch(2)
	for _, n := range strange {
		if got := w.At(n); got != 0 {
			t.Errorf("At(%d): %X", n, got)
		}
		w.Set(n, 0x5000)
		w.Touch(n)
		if got := w.At(n); got != 0 {
			t.Errorf("At(%d): %X", n, got)
		}
		want := dynamics
		want[2] = 0x1F600
		if got := offsets(w); got != want {
			t.Errorf("%d: %X", n, got)
		}
		if got := look(w, 0x5000); got != (found{}) {
			t.Errorf("%d: %v", n, got)
		}
		if got := ages(w); got != [8]int{6, 5, 4, 3, 1, 0, 7, 2} {
			t.Errorf("%d: %v", n, got)
		}
	}
}

func TestP133Find(t *testing.T) {
	w := window.New()
	find := func(c uint32, want found) {
		t.Helper()
		if got := look(w, c); got != want {
			t.Errorf("Find(%X): %v", c, got)
		}
	}
	w.Set(6, 0x1F600)
	find(0x1F5FF, found{})
	find(0x1F600, found{6, true})
	find(0x1F67F, found{6, true})
	find(0x1F680, found{})
	find(0x30C0, found{})
	// Of two windows of one offset the lesser number is found, whichever was
	// laid, or used, last.
	w.Set(4, 0x1F600)
	w.Touch(6)
	find(0x1F600, found{4, true})
	w.Set(6, 0x1F600)
	w.Touch(4)
	find(0x1F67F, found{4, true})
	// Of windows that overlap, too, though the other one begins nearer.
	w.Set(4, 0x1F5C0)
	find(0x1F5BF, found{})
	find(0x1F5C0, found{4, true})
	find(0x1F600, found{4, true})
	find(0x1F63F, found{4, true})
	find(0x1F640, found{6, true})
	w.Set(4, 0x1F640)
	find(0x1F63F, found{6, true})
	find(0x1F640, found{4, true})
	find(0x1F6BF, found{4, true})
	find(0x1F6C0, found{})
	// A window at the end of all numbers holds none of their beginning.
	w.Set(0, greatest-1)
	find(0, found{})
	find(0x7D, found{})
	find(0x80, found{})
	find(greatest-2, found{})
	find(greatest-1, found{0, true})
	find(greatest, found{0, true})
	w.Set(0, 0)
	find(0, found{0, true})
	find(0x7F, found{0, true})
}

// All windows are laid anew, again and again, and what is found is the first
// one that holds a number, by the chapter's words.
func TestP133FindMany(t *testing.T) {
	w := window.New()
	now := dynamics
	for i := range 2000 {
		n := i * 5 % 8
		now[n] = uint32(i*i*13) % 0x300
		w.Set(n, now[n])
		for c := uint32(0); c < 0x400; c += 7 {
			want := found{}
			for k, offset := range now {
				if within(offset, c) {
					want = found{k, true}
					break
				}
			}
			if got := look(w, c); got != want {
				t.Fatalf("%X: Find(%X): %v, not %v", now, c, got, want)
			}
		}
	}
}

func TestP133Touch(t *testing.T) {
	for n := range 8 {
		w := window.New()
		w.Touch(n)
		w.Touch(n)
		want := []int{}
		for k := 7; k >= 0; k-- {
			if k != n {
				want = append(want, k)
			}
		}
		want = append(want, n)
		if got := w.Oldest(); got != want[0] {
			t.Errorf("Touch(%d): %d", n, got)
		}
		if got := ages(w); got != [8]int(want) {
			t.Errorf("Touch(%d): %v", n, got)
		}
		if got := offsets(w); got != dynamics {
			t.Errorf("Touch(%d): %X", n, got)
		}
	}
}

// oldest: which window was used longest ago by when each one was used, as the
// chapter tells it.
func oldest(used [8]int) int {
	out := 0
	for n, when := range used {
		if when < used[out] {
			out = n
		}
	}
	return out
}

// All rows of five touches: which one is the oldest behind each, and the whole
// order behind all.
func TestP133TouchRows(t *testing.T) {
	for row := range 1 << 15 {
		w := window.New()
		used := [8]int{-1, -2, -3, -4, -5, -6, -7, -8}
		for i := range 5 {
			n := row >> (3 * i) & 7
			w.Touch(n)
			used[n] = i
			if got := w.Oldest(); got != oldest(used) {
				t.Fatalf("%05o: %d behind %d", row, got, i+1)
			}
		}
		var want [8]int
		for i := range want {
			want[i] = oldest(used)
			used[want[i]] = 5 + i
		}
		if got := ages(w); got != want {
			t.Fatalf("%05o: %v, not %v", row, got, want)
		}
	}
}

func TestP133TouchMany(t *testing.T) {
	w := window.New()
	used := [8]int{-1, -2, -3, -4, -5, -6, -7, -8}
	at := uint32(1)
	for i := range 200000 {
		at = at*1664525 + 1013904223
		n := int(at >> 29)
		w.Touch(n)
		used[n] = i
		if got := w.Oldest(); got != oldest(used) {
			t.Fatalf("%d: %d, not %d", i, got, oldest(used))
		}
	}
}

// Only a touch is a use.
func TestP133Asked(t *testing.T) {
	w := window.New()
	for n := 7; n >= 0; n-- {
		w.At(n)
		w.Find(dynamics[n])
		w.Set(n, dynamics[n])
		w.Oldest()
		if got := w.Oldest(); got != 7 {
			t.Errorf("%d: %d", n, got)
		}
	}
	if got := ages(w); got != [8]int{7, 6, 5, 4, 3, 2, 1, 0} {
		t.Error(got)
	}
}

func TestP133Apart(t *testing.T) {
	a, b := window.New(), window.New()
	for n := range 8 {
		a.Set(n, 0x1F600)
		a.Touch(7 - n)
	}
	a.Touch(3)
	if got := offsets(b); got != dynamics {
		t.Errorf("%X", got)
	}
	if got := ages(b); got != [8]int{7, 6, 5, 4, 3, 2, 1, 0} {
		t.Error(got)
	}
	c := window.New()
	if got := offsets(c); got != dynamics || c.Oldest() != 7 {
		t.Errorf("%X, %d", got, c.Oldest())
	}
	b.Set(0, 0x2000)
	b.Touch(0)
	if got := offsets(a); got != [8]uint32{0x1F600, 0x1F600, 0x1F600, 0x1F600, 0x1F600, 0x1F600, 0x1F600, 0x1F600} {
		t.Errorf("%X", got)
	}
	if got := ages(a); got != [8]int{7, 6, 5, 4, 2, 1, 0, 3} {
		t.Error(got)
	}
}
