package scalar_test

import (
	"slices"
	"testing"

	"pilcrow/scalar"
)

// span is numbers that stand side by side and are of one class.
type span struct {
	first, last uint32
	class       int
	units       int
}

// spans lists every uint32 once, in order, as the chapter says it.
var spans = []span{
	{0, 0x1F, 1, 1},
	{0x20, 0x7E, 2, 1},
	{0x7F, 0x9F, 1, 1},
	{0xA0, 0xFF, 3, 1},
	{0x100, 0xD7FF, 4, 1},
	{0xD800, 0xDFFF, 0, 0},
	{0xE000, 0xF8FF, 5, 1},
	{0xF900, 0xFFFF, 4, 1},
	{0x10000, 0x10FFFF, 6, 2},
	{0x110000, 0xFFFFFFFF, 0, 0},
}

// checkNumber holds all that P1.1 says of one number alone.
func checkNumber(t *testing.T, c uint32, s span) {
	t.Helper()
	is := s.class != 0
	if got := scalar.Is(c); got != is {
		t.Errorf("Is(%X) = %v", c, got)
	}
	if got := scalar.Class(c); got != s.class {
		t.Errorf("Class(%X) = %d, not %d", c, got, s.class)
	}
	if got := scalar.Units(c); got != s.units {
		t.Errorf("Units(%X) = %d, not %d", c, got, s.units)
	}
	place := -1
	if !is {
		place = 0
	}
	if got := scalar.First(c); got != place {
		t.Errorf("First(%X) = %d, not %d", c, got, place)
	}
}

func TestP11EveryNumberNearTheScalars(t *testing.T) {
	for _, s := range spans {
		last := min(s.last, 0x110FFF)
		for c := s.first; c <= last; c++ {
			checkNumber(t, c, s)
		}
	}
}

func TestP11FarNumbers(t *testing.T) {
	wrong := spans[len(spans)-1]
	for _, c := range []uint32{0x120000, 0x1000041, 0x7FFFFFFF, 0x80000000, 0x80000041, 0xFFFF0041, 0xFFFFD800, 0xFFFFFFFE, 0xFFFFFFFF} {
		checkNumber(t, c, wrong)
	}
}

func TestP11First(t *testing.T) {
	for _, x := range []struct {
		l    []uint32
		want int
	}{
		{nil, -1},
		{[]uint32{}, -1},
		{[]uint32{0}, -1},
		{[]uint32{0x41, 0xD7FF, 0xE000, 0xFFFF, 0x10000, 0x10FFFF}, -1},
		{[]uint32{0xD800}, 0},
		{[]uint32{0xDFFF, 0x41}, 0},
		{[]uint32{0x41, 0x110000}, 1},
		{[]uint32{0x41, 0xD800, 0xDC00, 0x42}, 1},
		{[]uint32{0x41, 0x42, 0xFFFFFFFF, 0xD800}, 2},
		{[]uint32{0x41, 0x42, 0x43, 0xDC00}, 3},
	} {
		if got := scalar.First(x.l...); got != x.want {
			t.Errorf("First(%X) = %d, not %d", x.l, got, x.want)
		}
	}
	if scalar.First() != -1 || scalar.First(1, 0xD800, 2) != 1 {
		t.Error("First of numbers one by one")
	}
}

func TestP11Units(t *testing.T) {
	for _, x := range []struct {
		l    []uint32
		want int
	}{
		{nil, 0},
		{[]uint32{}, 0},
		{[]uint32{0x41, 0x1F600}, 3},
		{[]uint32{0, 0xFFFF}, 2},
		{[]uint32{0x10000, 0x10FFFF}, 4},
		{[]uint32{0xD800, 0xDFFF, 0x110000, 0xFFFFFFFF}, 0},
		{[]uint32{0xD7FF, 0xD800, 0xE000}, 2},
		{[]uint32{0x110000, 0x10FFFF, 0xDC00, 0x41}, 3},
		{slices.Repeat([]uint32{0x41, 0x1F600, 0xD800}, 1000), 3000},
	} {
		if got := scalar.Units(x.l...); got != x.want {
			t.Errorf("Units(%X) = %d, not %d", x.l, got, x.want)
		}
	}
	if scalar.Units() != 0 || scalar.Units(0x41, 0x1F600) != 3 {
		t.Error("Units of numbers one by one")
	}
}

func TestP12Order(t *testing.T) {
	for _, x := range []struct {
		a, b []uint32
		want int
	}{
		{nil, nil, 0},
		{nil, []uint32{}, 0},
		{[]uint32{}, nil, 0},
		{nil, []uint32{0}, -1},
		{[]uint32{0}, []uint32{}, 1},
		{[]uint32{1, 2}, []uint32{1, 2}, 0},
		{[]uint32{1, 2}, []uint32{1, 2, 0}, -1},
		{[]uint32{1, 2, 0}, []uint32{1, 2}, 1},
		{[]uint32{2}, []uint32{1, 5}, 1},
		{[]uint32{1, 5}, []uint32{2}, -1},
		{[]uint32{1, 2, 9}, []uint32{1, 3, 0}, -1},
		{[]uint32{1, 3, 0}, []uint32{1, 2, 9}, 1},
		{[]uint32{0xD800}, []uint32{0xE000}, -1},
		{[]uint32{0xFFFF}, []uint32{0x10000}, -1},
		{[]uint32{0x110000}, []uint32{0x10FFFF}, 1},
		{[]uint32{0xFFFFFFFF}, []uint32{0}, 1},
		{[]uint32{0x7FFFFFFF}, []uint32{0x80000000}, -1},
		{[]uint32{0xFFFFFFFF, 1}, []uint32{0xFFFFFFFF, 1}, 0},
	} {
		if got := scalar.Order(x.a, x.b); got != x.want {
			t.Errorf("Order(%X, %X) = %d, not %d", x.a, x.b, got, x.want)
		}
	}
}

func TestP12Join(t *testing.T) {
	for _, x := range []struct {
		l    [][]uint32
		want []uint32
	}{
		{nil, nil},
		{[][]uint32{nil}, nil},
		{[][]uint32{{}, nil, {}}, nil},
		{[][]uint32{{7}}, []uint32{7}},
		{[][]uint32{{1}, nil, {2, 3}}, []uint32{1, 2, 3}},
		{[][]uint32{{3, 2}, {1}, {}, {3, 2}}, []uint32{3, 2, 1, 3, 2}},
		{[][]uint32{nil, {0xD800, 0x110000}, {0xFFFFFFFF}}, []uint32{0xD800, 0x110000, 0xFFFFFFFF}},
	} {
		if got := scalar.Join(x.l...); !slices.Equal(got, x.want) {
			t.Errorf("Join(%X) = %X, not %X", x.l, got, x.want)
		}
	}
	if len(scalar.Join()) != 0 {
		t.Error("Join of nothing")
	}
}

func TestP12JoinIsNewMemory(t *testing.T) {
	whole := []uint32{1, 2, 3, 4}
	for _, other := range [][]uint32{nil, {9}} {
		front := whole[:2]
		got := scalar.Join(front, other)
		for i := range got {
			got[i] = 77
		}
		_ = append(got, 78)
		if !slices.Equal(whole, []uint32{1, 2, 3, 4}) {
			t.Fatalf("what was handed in became %d", whole)
		}
	}
	if lone := scalar.Join(whole); &lone[0] == &whole[0] {
		t.Error("a list alone is handed back itself")
	}
}

func TestCallsLeaveWhatIsHandedIn(t *testing.T) {
	want := []uint32{3, 0xD800, 1, 0x10000}
	l := slices.Clone(want)
	scalar.First(l...)
	scalar.Units(l...)
	scalar.Order(l[:2], l)
	scalar.Join(l[:1], l[1:])
	if !slices.Equal(l, want) {
		t.Errorf("the list became %X", l)
	}
}

// shortLists are all lists of at most three numbers out of a few, edges among them.
func shortLists() [][]uint32 {
	numbers := []uint32{0, 1, 0xD800, 0xFFFFFFFF}
	all := [][]uint32{nil}
	for from, length := 0, 0; length < 3; length++ {
		to := len(all)
		for ; from < to; from++ {
			for _, c := range numbers {
				all = append(all, append(slices.Clone(all[from]), c))
			}
		}
	}
	return all
}

func TestP13OrderTurned(t *testing.T) {
	lists := shortLists()
	for i, a := range lists {
		for j, b := range lists {
			ab, ba := scalar.Order(a, b), scalar.Order(b, a)
			if ab != -ba {
				t.Fatalf("%X and %X: %d, turned %d", a, b, ab, ba)
			}
			if ab < -1 || ab > 1 || (ab == 0) != (i == j) {
				t.Fatalf("%X and %X: %d", a, b, ab)
			}
		}
	}
}

func TestP13OrderGoesOn(t *testing.T) {
	lists := shortLists()
	slices.SortFunc(lists, scalar.Order)
	for i, a := range lists {
		for _, b := range lists[i+1:] {
			if scalar.Order(a, b) != -1 {
				t.Fatalf("%X stands ahead of %X", a, b)
			}
		}
	}
}

func TestP13ListsThatBeginAlike(t *testing.T) {
	lists := shortLists()
	for _, front := range [][]uint32{nil, {0}, {5, 0xD900}, {0x110000, 0, 0xFFFFFFFF}} {
		for _, a := range lists {
			for _, b := range lists {
				got := scalar.Order(scalar.Join(front, a), scalar.Join(front, b))
				if want := scalar.Order(a, b); got != want {
					t.Fatalf("%X ahead of %X and %X: %d, not %d", front, a, b, got, want)
				}
			}
		}
	}
}
