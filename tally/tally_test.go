package tally_test

import (
	"fmt"
	"math"
	"slices"
	"strings"
	"testing"
	"unicode/utf16"
	"unicode/utf8"

	"pilcrow/api"
	"pilcrow/codec"
	"pilcrow/samples"
	"pilcrow/tally"
)

// class: a scalar's class, by the chapter's words.
func class(a uint32) int {
	switch {
	case a >= 0x10000:
		return 6
	case a >= 0xE000 && a <= 0xF8FF:
		return 5
	case a <= 0x1F || a >= 0x7F && a <= 0x9F:
		return 1
	case a <= 0x7E:
		return 2
	case a <= 0xFF:
		return 3
	}
	return 4
}

// tallied: the tally of a list, number by number, with the library's sizes.
func tallied(l []uint32) api.Tally {
	var t api.Tally
	for _, a := range l {
		if a > math.MaxInt32 || !utf8.ValidRune(rune(a)) {
			continue
		}
		if t.Scalars == 0 {
			t.Least, t.Most = a, a
		}
		t.Scalars++
		t.Units += utf16.RuneLen(rune(a))
		t.Bytes += utf8.RuneLen(rune(a))
		*[]*int{&t.Controls, &t.Ascii, &t.Latin, &t.Plane, &t.Private, &t.Beyond}[class(a)-1]++
		t.Least, t.Most = min(t.Least, a), max(t.Most, a)
	}
	return t
}

// is: Of answers the tally of a list.
func is(t *testing.T, l ...uint32) {
	t.Helper()
	if got, want := tally.Of(l...), tallied(l); got != want {
		t.Errorf("Of(%s), %d numbers: %+v, not %+v", samples.Hex(l), len(l), got, want)
	}
}

// edges are the first and the last number of each class, and their neighbours.
func edges() []uint32 {
	return []uint32{
		0, 1, 0x1E, 0x1F, 0x20, 0x21, 0x7D, 0x7E, 0x7F, 0x80, 0x9E, 0x9F, 0xA0, 0xA1, 0xFE, 0xFF, 0x100, 0x101, 0xD7FE, 0xD7FF,
		0xE000, 0xE001, 0xF8FE, 0xF8FF, 0xF900, 0xF901, 0xFFFE, 0xFFFF, 0x10000, 0x10001, 0x10FFFE, 0x10FFFF,
	}
}

func TestP231Examples(t *testing.T) {
	want := api.Tally{Scalars: 2, Units: 3, Bytes: 5, Ascii: 1, Beyond: 1, Least: 65, Most: 128512}
	if got := tally.Of(0x41, 0x1F600); got != want {
		t.Errorf("%+v, not %+v", got, want)
	}
}

func TestP231NothingAndOne(t *testing.T) {
	for _, l := range [][]uint32{nil, {}, {0xD800}, {0xFFFFFFFF, 0x110000}} {
		if got := tally.Of(l...); got != (api.Tally{}) {
			t.Errorf("Of(%s): %+v", samples.Hex(l), got)
		}
	}
	for _, c := range []struct {
		a    uint32
		want api.Tally
	}{
		{0, api.Tally{Scalars: 1, Units: 1, Bytes: 1, Controls: 1}},
		{0x1F, api.Tally{Scalars: 1, Units: 1, Bytes: 1, Controls: 1, Least: 31, Most: 31}},
		{0x20, api.Tally{Scalars: 1, Units: 1, Bytes: 1, Ascii: 1, Least: 32, Most: 32}},
		{0x7E, api.Tally{Scalars: 1, Units: 1, Bytes: 1, Ascii: 1, Least: 126, Most: 126}},
		{0x7F, api.Tally{Scalars: 1, Units: 1, Bytes: 1, Controls: 1, Least: 127, Most: 127}},
		{0x80, api.Tally{Scalars: 1, Units: 1, Bytes: 2, Controls: 1, Least: 128, Most: 128}},
		{0x9F, api.Tally{Scalars: 1, Units: 1, Bytes: 2, Controls: 1, Least: 159, Most: 159}},
		{0xA0, api.Tally{Scalars: 1, Units: 1, Bytes: 2, Latin: 1, Least: 160, Most: 160}},
		{0xFF, api.Tally{Scalars: 1, Units: 1, Bytes: 2, Latin: 1, Least: 255, Most: 255}},
		{0x100, api.Tally{Scalars: 1, Units: 1, Bytes: 2, Plane: 1, Least: 256, Most: 256}},
		{0x7FF, api.Tally{Scalars: 1, Units: 1, Bytes: 2, Plane: 1, Least: 2047, Most: 2047}},
		{0x800, api.Tally{Scalars: 1, Units: 1, Bytes: 3, Plane: 1, Least: 2048, Most: 2048}},
		{0xD7FF, api.Tally{Scalars: 1, Units: 1, Bytes: 3, Plane: 1, Least: 55295, Most: 55295}},
		{0xE000, api.Tally{Scalars: 1, Units: 1, Bytes: 3, Private: 1, Least: 57344, Most: 57344}},
		{0xF8FF, api.Tally{Scalars: 1, Units: 1, Bytes: 3, Private: 1, Least: 63743, Most: 63743}},
		{0xF900, api.Tally{Scalars: 1, Units: 1, Bytes: 3, Plane: 1, Least: 63744, Most: 63744}},
		{0xFFFF, api.Tally{Scalars: 1, Units: 1, Bytes: 3, Plane: 1, Least: 65535, Most: 65535}},
		{0x10000, api.Tally{Scalars: 1, Units: 2, Bytes: 4, Beyond: 1, Least: 65536, Most: 65536}},
		{0x10FFFF, api.Tally{Scalars: 1, Units: 2, Bytes: 4, Beyond: 1, Least: 1114111, Most: 1114111}},
	} {
		if got := tally.Of(c.a); got != c.want {
			t.Errorf("Of(%X): %+v, not %+v", c.a, got, c.want)
		}
	}
}

func TestP231Classes(t *testing.T) {
	all := append(append(edges(), samples.Sizes()...), 0x7F, 0x80, 0x7FF, 0x800, 0xFFFF, 0x10000)
	is(t, all...)
	for i, a := range all {
		is(t, a)
		is(t, a, a)
		is(t, all[:i]...)
		is(t, all[i:]...)
	}
}

func TestP231Many(t *testing.T) {
	r := samples.From(23)
	for n := range 300 {
		is(t, r.List(n)...)
	}
	is(t, r.List(100_000)...)
	is(t, slices.Repeat([]uint32{0x10FFFF}, 10_000)...)
	every := make([]uint32, 0x110100)
	for i := range every {
		every[i] = uint32(i)
	}
	is(t, every...)
}

// Numbers that are no scalar stand alone, ahead, amid and behind; what stands
// behind them counts.
func TestP231NoScalars(t *testing.T) {
	for _, no := range samples.NoScalars() {
		is(t, no)
		is(t, no, no)
		is(t, no, 0x41, 0x1F600)
		is(t, 0x41, no, 0x1F600)
		is(t, 0x41, 0x1F600, no)
		is(t, no, 0xE9, no, 0, no, no, 0x10FFFF, 0xE000, no)
		want := api.Tally{Scalars: 2, Units: 2, Bytes: 4, Latin: 1, Plane: 1, Least: 0xE9, Most: 0x416}
		if got := tally.Of(no, 0x416, no, 0xE9, no); got != want {
			t.Errorf("beside %X: %+v, not %+v", no, got, want)
		}
	}
	for _, edge := range []uint32{0xD7FF, 0xD800, 0xDFFF, 0xE000, 0x10FFFF, 0x110000} {
		is(t, edge)
		is(t, edge-1, edge, edge+1)
	}
	is(t, append(edges(), samples.NoScalars()...)...)
	is(t, append(samples.NoScalars(), edges()...)...)
}

func TestP231LeastAndMost(t *testing.T) {
	for _, c := range []struct {
		l           []uint32
		least, most uint32
	}{
		{[]uint32{5, 6, 7}, 5, 7}, {[]uint32{7, 6, 5}, 5, 7}, {[]uint32{6, 5, 7}, 5, 7}, {[]uint32{6, 7, 5}, 5, 7}, {[]uint32{5, 7, 6}, 5, 7}, {[]uint32{7, 5, 6}, 5, 7},
		{[]uint32{5, 7, 5, 7}, 5, 7}, {[]uint32{7, 7, 7}, 7, 7},
		{[]uint32{0}, 0, 0}, {[]uint32{0, 0}, 0, 0}, {[]uint32{0, 9}, 0, 9}, {[]uint32{9, 0}, 0, 9}, {[]uint32{9, 0, 8}, 0, 9}, {[]uint32{8, 9}, 8, 9},
		{[]uint32{0x10FFFF, 0x10FFFE}, 0x10FFFE, 0x10FFFF}, {[]uint32{0x110000, 9, 0xFFFFFFFF, 8, 0xD800}, 8, 9}, {[]uint32{0xD800, 0xFFFF}, 0xFFFF, 0xFFFF},
	} {
		if got := tally.Of(c.l...); got.Least != c.least || got.Most != c.most {
			t.Errorf("Of(%s): %d and %d, not %d and %d", samples.Hex(c.l), got.Least, got.Most, c.least, c.most)
		}
	}
}

// sized: how many bytes each codec makes of a list, told by its machine in
// parts of any size.
func sized(t *testing.T, l []uint32) []int {
	t.Helper()
	var all []int
	for c := 1; c <= api.Codecs; c++ {
		e, err := codec.NewEncoder(c)
		if err != api.OK {
			t.Fatal(c, err)
		}
		n, at := 0, 0
		for steps := 0; !e.Done(); steps++ {
			if at == len(l) {
				e.End()
			}
			eaten, s := e.Feed(l[at:], 7+steps%5)
			at, n = at+eaten, n+len(s)
			if steps > 100*(len(l)+1) {
				t.Fatalf("codec %d, %s: no end", c, samples.Hex(l))
			}
		}
		all = append(all, n)
	}
	return all
}

// sizes: Sizes answers these numbers.
func sizes(t *testing.T, l []uint32, want ...int) {
	t.Helper()
	if got := tally.Sizes(l...); !slices.Equal(got, want) {
		t.Errorf("Sizes(%s), %d numbers: %v, not %v", samples.Hex(l), len(l), got, want)
	}
}

func TestP232Sizes(t *testing.T) {
	for _, c := range []struct {
		l    []uint32
		want []int
	}{
		{nil, []int{0, 0, 0, 0, 0, 0, 0, 0, 0, 0}},
		{[]uint32{0x41}, []int{1, 2, 2, 4, 4, 1, 2, 1, 1, 1}},
		{[]uint32{0xE9}, []int{2, 2, 2, 4, 4, 2, 3, 2, 1, 1}},
		{[]uint32{0x41, 0xE9, 0x20AC}, []int{6, 6, 6, 12, 12, 6, 9, 5, 4, 5}},
		{[]uint32{0xFEFF}, []int{3, 2, 2, 4, 4, 4, 4, 3, 3, 3}},
		{[]uint32{0x62, 0xFC, 0x63, 0x68, 0x65, 0x72}, []int{7, 12, 12, 24, 24, 7, 9, 8, 6, 6}},
		{[]uint32{0x41C, 0x43E, 0x441}, []int{6, 6, 6, 12, 12, 9, 6, 4, 4, 7}},
		{[]uint32{0x416, 0x436, 0x0A, 0x41}, []int{6, 8, 8, 16, 16, 8, 8, 5, 5, 9}},
	} {
		sizes(t, c.l, c.want...)
	}
}

// As many as codec.Encode makes, of each kind, with the mark at the beginning
// and elsewhere.
func TestP232Encode(t *testing.T) {
	r := samples.From(232)
	lists := [][]uint32{{}, samples.Sizes(), edges(), {0xFEFF, 0x41}, {0x41, 0xFEFF}, {0x416, 0xFEFF, 0xFEFF}, {0x1F600, 0xE000}, r.List(5000)}
	for _, a := range append(edges(), samples.Sizes()...) {
		lists = append(lists, []uint32{a}, []uint32{a, a}, []uint32{0xFEFF, a}, []uint32{a, 0x0A, a})
	}
	for n := range 60 {
		lists = append(lists, r.List(n))
	}
	for _, l := range lists {
		var want []int
		for c := 1; c <= api.Codecs; c++ {
			s, f := codec.Encode(c, l...)
			if f != (api.Fail{}) {
				t.Fatalf("Encode(%d, %s): %v", c, samples.Hex(l), f)
			}
			want = append(want, len(s))
		}
		if told := sized(t, l); !slices.Equal(told, want) {
			t.Errorf("%s: the machines tell %v, Encode %v", samples.Hex(l), told, want)
		}
		sizes(t, l, want...)
	}
}

// Those ahead of the first number that is no scalar count, and none by Puny.
func TestP232NoScalars(t *testing.T) {
	ahead := [][]uint32{nil, {0x41}, {0xE9, 0x41}, {0x416, 0x436, 0x0A, 0x41}, {0x1F600}, {0xFEFF, 0x4E00, 0x3041}, samples.Sizes()}
	behind := [][]uint32{nil, {0x41}, {0x416, 0x1F600}, {0xD800}, samples.Sizes()}
	for _, no := range samples.NoScalars() {
		for _, a := range ahead {
			want := sized(t, a)
			want[api.Puny-1] = 0
			for _, b := range behind {
				sizes(t, slices.Concat(a, []uint32{no}, b), want...)
			}
		}
	}
	sizes(t, []uint32{0x41, 0xD800, 0xE9}, 1, 2, 2, 4, 4, 1, 0, 1, 1, 1)
	sizes(t, []uint32{0x110000, 0xE9}, 0, 0, 0, 0, 0, 0, 0, 0, 0, 0)
}

func TestP232SizesAreNew(t *testing.T) {
	for _, l := range [][]uint32{nil, {0x41}, {0xE9, 0xD800}, samples.Sizes()} {
		a, b := tally.Sizes(l...), tally.Sizes(l...)
		if len(a) != 10 || len(b) != 10 {
			t.Fatalf("%s: %d and %d numbers", samples.Hex(l), len(a), len(b))
		}
		want := slices.Clone(b)
		samples.Spoil(a, -1)
		if !slices.Equal(b, want) || !slices.Equal(tally.Sizes(l...), want) {
			t.Errorf("%s: two answers share memory", samples.Hex(l))
		}
	}
}

// wordsOf are the lines' words, in order.
var wordsOf = []string{"scalars", "units", "bytes", "controls", "ascii", "latin", "plane", "private", "beyond", "least", "most"}

// of: the tally of these numbers, in the lines' order.
func of(n [9]int, least, most uint32) api.Tally {
	return api.Tally{
		Scalars: n[0], Units: n[1], Bytes: n[2], Controls: n[3], Ascii: n[4], Latin: n[5], Plane: n[6], Private: n[7], Beyond: n[8],
		Least: least, Most: most,
	}
}

// writes: Text writes these numbers behind the words.
func writes(t *testing.T, n [9]int, least, most uint32) {
	t.Helper()
	var want strings.Builder
	for i, a := range n {
		fmt.Fprintf(&want, "%s %d\n", wordsOf[i], a)
	}
	fmt.Fprintf(&want, "%s %d\n%s %d\n", wordsOf[9], least, wordsOf[10], most)
	if got := tally.Text(of(n, least, most)); got != want.String() {
		t.Errorf("Text: %.300q, not %q", got, want.String())
	}
}

func TestP232TextExamples(t *testing.T) {
	for _, c := range []struct {
		l    []uint32
		want string
	}{
		{nil, "scalars 0\nunits 0\nbytes 0\ncontrols 0\nascii 0\nlatin 0\nplane 0\nprivate 0\nbeyond 0\nleast 0\nmost 0\n"},
		{[]uint32{0x41, 0x1F600}, "scalars 2\nunits 3\nbytes 5\ncontrols 0\nascii 1\nlatin 0\nplane 0\nprivate 0\nbeyond 1\nleast 65\nmost 128512\n"},
		{[]uint32{0x0A, 0xE9, 0xE9, 0x416, 0xE000, 0x10FFFF, 0xD800}, "scalars 6\nunits 7\nbytes 14\ncontrols 1\nascii 0\nlatin 2\nplane 1\nprivate 1\nbeyond 1\nleast 10\nmost 1114111\n"},
	} {
		if got := tally.Text(tally.Of(c.l...)); got != c.want {
			t.Errorf("Text of %s: %.300q, not %q", samples.Hex(c.l), got, c.want)
		}
	}
}

func TestP232Text(t *testing.T) {
	numbers := []int{
		0, 1, 9, 10, 11, 99, 100, 12345678909, -1, -9, -10, math.MaxInt32, math.MinInt32, math.MaxUint32, math.MaxInt - 1, math.MaxInt, math.MinInt + 1, math.MinInt,
	}
	var rising [9]int
	for i := range rising {
		rising[i] = 100 + i
	}
	for at := range 9 {
		for _, a := range numbers {
			n := [9]int{}
			n[at] = a
			writes(t, n, 0, 0)
			n = rising
			n[at] = a
			writes(t, n, 300, 400)
		}
	}
	for _, a := range []uint32{0, 1, 9, 10, 0x10FFFF, math.MaxInt32, math.MaxInt32 + 1, math.MaxUint32 - 1, math.MaxUint32} {
		writes(t, rising, a, 7)
		writes(t, rising, 7, a)
		writes(t, [9]int{}, a, a)
	}
}

// added: the tally of both, either way round.
func added(t *testing.T, a, b, want api.Tally) {
	t.Helper()
	if got := tally.Add(a, b); got != want {
		t.Errorf("Add(%+v, %+v): %+v, not %+v", a, b, got, want)
	}
	if got := tally.Add(b, a); got != want {
		t.Errorf("Add(%+v, %+v), turned: %+v, not %+v", b, a, got, want)
	}
}

func TestP233NothingAndSome(t *testing.T) {
	none, some := api.Tally{}, api.Tally{Scalars: 3, Units: 4, Bytes: 5, Controls: 6, Ascii: 7, Latin: 8, Plane: 9, Private: 10, Beyond: 11, Least: 12, Most: 13}
	added(t, none, none, none)
	added(t, none, some, some)
	added(t, some, some, api.Tally{Scalars: 6, Units: 8, Bytes: 10, Controls: 12, Ascii: 14, Latin: 16, Plane: 18, Private: 20, Beyond: 22, Least: 12, Most: 13})
	added(t, tally.Of(0), none, tally.Of(0))
	added(t, tally.Of(0x41), none, tally.Of(0x41))
	added(t, tally.Of(0xD800), tally.Of(0x41), tally.Of(0x41))
	added(t, tally.Of(0), tally.Of(0x41), tally.Of(0, 0x41))
}

// Each number is that of both, by itself.
func TestP233EachNumber(t *testing.T) {
	for _, p := range [][2]int{{0, 0}, {1, 2}, {5, 0}, {0, 5}, {-7, 3}, {-1, -2}, {1 << 40, 1 << 41}, {math.MaxInt, 0}, {math.MinInt, 0}, {math.MaxInt, math.MinInt}} {
		for at := range 9 {
			a, b, both := [9]int{1, 20, 300, 4, 5, 6, 7, 8, 9}, [9]int{10, 1, 2, 3, 4, 50, 60, 70, 80}, [9]int{}
			a[at], b[at] = p[0], p[1]
			for i := range both {
				both[i] = a[i] + b[i]
			}
			got := tally.Add(of(a, 3, 5), of(b, 3, 5))
			if want := of(both, got.Least, got.Most); got != want {
				t.Errorf("Add, %v at %d: %+v, not %+v", p, at, got, want)
			}
		}
	}
}

func TestP233LeastAndMost(t *testing.T) {
	ends := func(scalars int, least, most uint32) api.Tally {
		return api.Tally{Scalars: scalars, Least: least, Most: most}
	}
	added(t, ends(1, 5, 9), ends(1, 6, 8), ends(2, 5, 9))
	added(t, ends(1, 5, 8), ends(1, 6, 9), ends(2, 5, 9))
	added(t, ends(1, 5, 9), ends(1, 5, 9), ends(2, 5, 9))
	added(t, ends(1, 0, 9), ends(1, 5, 5), ends(2, 0, 9))
	added(t, ends(1, 0, 0), ends(1, 5, 5), ends(2, 0, 5))
	added(t, ends(1, 1, 2), ends(1, 3, 4), ends(2, 1, 4))
	added(t, ends(1, 0x7FFFFFFF, 0x7FFFFFFF), ends(1, 0x80000000, 0xFFFFFFFF), ends(2, 0x7FFFFFFF, 0xFFFFFFFF))
	added(t, ends(0, 5, 9), ends(0, 6, 8), ends(0, 0, 0))
	added(t, ends(0, 5, 9), ends(0, 0, 0), ends(0, 0, 0))
	added(t, ends(0, 1, 100), ends(1, 6, 8), ends(1, 6, 8))
	added(t, ends(0, 0, 100), ends(1, 6, 8), ends(1, 6, 8))
	added(t, ends(0, 7, 7), ends(2, 0, 0), ends(2, 0, 0))
}

// Where neither, or one, has Scalars, the other numbers are those of both still.
func TestP233WithoutScalars(t *testing.T) {
	a := api.Tally{Units: 1, Bytes: 2, Controls: 3, Ascii: 4, Latin: 5, Plane: 6, Private: 7, Beyond: 8, Least: 9, Most: 10}
	b := api.Tally{Units: 10, Bytes: 20, Controls: 30, Ascii: 40, Latin: 50, Plane: 60, Private: 70, Beyond: 80, Least: 90, Most: 100}
	both := api.Tally{Units: 11, Bytes: 22, Controls: 33, Ascii: 44, Latin: 55, Plane: 66, Private: 77, Beyond: 88}
	added(t, a, b, both)
	b.Scalars = 1000
	both.Scalars, both.Least, both.Most = 1000, 90, 100
	added(t, a, b, both)
}

// The tally of two lists one behind the other is that of both.
func TestP233Lists(t *testing.T) {
	r := samples.From(233)
	lists := [][]uint32{nil, {0}, {0x41}, {0xFFFFFFFF}, samples.NoScalars(), samples.Sizes(), edges()}
	for n := range 12 {
		l := r.List(n)
		for i := range l {
			if r.Below(4) == 0 {
				l[i] = samples.NoScalars()[r.Below(len(samples.NoScalars()))]
			}
		}
		lists = append(lists, l, r.List(n))
	}
	for _, a := range lists {
		for _, b := range lists {
			both := slices.Concat(a, b)
			added(t, tally.Of(a...), tally.Of(b...), tally.Of(both...))
			is(t, both...)
		}
	}
}

func TestWhatIsHandedInStays(t *testing.T) {
	for _, l := range [][]uint32{{}, {0x41}, {0xD800, 0x41}, {0x1F600, 0xFFFFFFFF, 0xE9}, samples.Sizes(), samples.NoScalars()} {
		list, all := samples.Roomy(l, 0x42)
		want := slices.Clone(all)
		is(t, list...)
		tally.Sizes(list...)
		if !slices.Equal(all, want) {
			t.Errorf("%s: changed to %s", samples.Hex(want), samples.Hex(all))
		}
	}
}

// A tally and its text hang on the arguments alone.
func TestAnswersStay(t *testing.T) {
	l := samples.Sizes()
	first, sizes, text := tally.Of(l...), tally.Sizes(l...), tally.Text(tally.Of(l...))
	tally.Of(samples.From(1).List(50)...)
	tally.Sizes(0x41, 0xD800)
	tally.Add(first, first)
	if tally.Of(l...) != first || !slices.Equal(tally.Sizes(l...), sizes) || tally.Text(first) != text {
		t.Error("another answer at the second call")
	}
}

func TestNothingPanics(t *testing.T) {
	r := samples.From(2323)
	numbers := func() (n [9]int) {
		for i := range n {
			n[i] = []int{math.MinInt, math.MaxInt, -1, 0, 1, r.Below(1000)}[r.Below(6)]
		}
		return n
	}
	for range 300 {
		a, b := of(numbers(), uint32(r.Below(1<<24))<<8, math.MaxUint32), of(numbers(), uint32(r.Below(3)), uint32(r.Below(1<<24)))
		both := tally.Add(a, b)
		if s := tally.Text(both); strings.Count(s, "\n") != 11 {
			t.Errorf("Text(%+v): %.300q", both, s)
		}
		l := make([]uint32, r.Below(20))
		for i := range l {
			l[i] = uint32(r.Below(1<<24)) << r.Below(9)
		}
		is(t, l...)
		if n := len(tally.Sizes(l...)); n != 10 {
			t.Errorf("Sizes(%s): %d numbers", samples.Hex(l), n)
		}
	}
}
