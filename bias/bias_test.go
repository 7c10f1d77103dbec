package bias_test

import (
	"math"
	"math/big"
	"slices"
	"strings"
	"testing"

	"pilcrow/api"
	"pilcrow/bias"
)

// top is the greatest number that Get answers.
const top = uint64(1) << 62

// row is all digits with small letters, each at the place that it is worth.
const row = "abcdefghijklmnopqrstuvwxyz0123456789"

// worth: a digit's by the chapter's words, -1 if it is none.
func worth(b byte) int {
	if 'A' <= b && b <= 'Z' {
		b += 'a' - 'A'
	}
	return strings.IndexByte(row, b)
}

// counted: a place or a bias as it counts.
func counted(x int) int {
	if x < 0 {
		return 0
	}
	if x > 1000 {
		return 1000
	}
	return x
}

// threshold by the chapter's words.
func threshold(place, under int) int {
	t := 36*(counted(place)+1) - counted(under)
	if t < 1 {
		return 1
	}
	if t > 26 {
		return 26
	}
	return t
}

// adapt by the chapter's words, with numbers of any size.
func adapt(delta, points uint64, first bool) int {
	d := new(big.Int).SetUint64(delta)
	by := big.NewInt(2)
	if first {
		by = big.NewInt(700)
	}
	d.Div(d, by)
	many := new(big.Int).SetUint64(points)
	if points == 0 {
		many.SetInt64(1)
	}
	d.Add(d, new(big.Int).Div(d, many))
	k := 0
	for ; d.Cmp(big.NewInt(455)) > 0; k++ {
		d.Div(d, big.NewInt(35))
	}
	left := int(d.Int64())
	return 36*k + 36*left/(left+38)
}

// answer is all that Get answers.
type answer struct {
	n    uint64
	next int
	err  api.Errno
}

// read: what Get answers by the chapter's words, with numbers of any size.
func read(s string, at, under int) answer {
	if at < 0 || at > len(s) {
		return answer{err: api.ErrArg}
	}
	n, weight := new(big.Int), big.NewInt(1)
	for i := at; i < len(s); i++ {
		d := worth(s[i])
		if d < 0 {
			return answer{err: api.ErrForm}
		}
		n.Add(n, new(big.Int).Mul(weight, big.NewInt(int64(d))))
		if n.Cmp(new(big.Int).SetUint64(top)) > 0 {
			return answer{err: api.ErrLong}
		}
		t := threshold(i-at, under)
		if d < t {
			return answer{n.Uint64(), i + 1, api.OK}
		}
		weight.Mul(weight, big.NewInt(int64(36-t)))
	}
	return answer{err: api.ErrCut}
}

func get(s string, at, under int) answer {
	n, next, e := bias.Get(s, at, under)
	return answer{n, next, e}
}

// reads: Get answers as the chapter says.
func reads(t *testing.T, s string, at, under int) {
	t.Helper()
	if got, want := get(s, at, under), read(s, at, under); got != want {
		t.Errorf("Get(%q, %d, %d): %v, not %v", s, at, under, got, want)
	}
}

// isRow: these are a number's digits: the last one alone is below its
// threshold, and all, each times its weight, are the number.
func isRow(t *testing.T, s string, n uint64, under int) {
	t.Helper()
	sum, weight := new(big.Int), big.NewInt(1)
	for i := range len(s) {
		d := strings.IndexByte(row, s[i])
		if d < 0 || (d < threshold(i, under)) != (i == len(s)-1) {
			t.Fatalf("Put(%d, %d): %q: the byte at %d", n, under, s, i)
		}
		sum.Add(sum, new(big.Int).Mul(weight, big.NewInt(int64(d))))
		weight.Mul(weight, big.NewInt(int64(36-threshold(i, under))))
	}
	if len(s) == 0 || sum.Cmp(new(big.Int).SetUint64(n)) != 0 {
		t.Fatalf("Put(%d, %d): %q, which is %v", n, under, s, sum)
	}
}

// source makes numbers that look mixed, the same ones each time.
type source uint64

func (r *source) next() uint64 {
	*r = *r*6364136223846793005 + 1442695040888963407
	return uint64(*r)>>31 ^ uint64(*r)<<20
}

// below: one of the numbers from 0 to n - 1.
func (r *source) below(n int) int { return int(r.next() % uint64(n)) }

// biases are of all kinds: where thresholds change, and beyond the bounds.
func biases() []int {
	l := []int{math.MinInt, math.MinInt + 1, -1000, -37, -1}
	for b := 0; b <= 150; b++ {
		l = append(l, b)
	}
	for b := 170; b < 1000; b += 29 {
		l = append(l, b)
	}
	return append(l, 359, 360, 361, 396, 612, 720, 999, 1000, 1001, 1008, 2000, math.MaxInt-1, math.MaxInt)
}

// numbers are small ones, those about the powers of two and of the spans, the
// greatest ones, and mixed ones.
func numbers() []uint64 {
	var l []uint64
	for n := range uint64(100) {
		l = append(l, n)
	}
	for shift := range 64 {
		l = append(l, around(1<<shift)...)
	}
	for _, span := range []uint64{10, 22, 35} {
		for p := span; p < math.MaxUint64/35; p *= span {
			l = append(l, around(p)...)
		}
	}
	for n := range uint64(4) {
		l = append(l, math.MaxUint64-n)
	}
	r := source(9)
	for range 100 {
		l = append(l, r.next()>>r.below(64))
	}
	return l
}

func around(n uint64) []uint64 { return []uint64{n - 1, n, n + 1} }

func TestP91Adapt(t *testing.T) {
	for _, x := range []struct {
		delta, points uint64
		first         bool
		want          int
	}{
		{0, 0, true, 0},
		{0, 0, false, 0},
		{0, math.MaxUint64, false, 0},
		{1, 1, false, 0},
		{2, 1, false, 1},
		{2, 0, false, 1},
		{699, 1, true, 0},
		{700, 1, true, 1},
		{700, 0, true, 1},
		{1399, 1, true, 1},
		{1400, 2, true, 2},
		{745, 6, true, 0},
		{19853, 1, true, 21},
		{455, 1, false, 33},
		{456, 1, false, 45},
		{910, 1000, false, 33},
		{911, 1000, false, 33},
		{912, 1000, false, 45},
		{31919, 1000000, false, 69},
		{31920, 1000000, false, 81},
		{319199, 1000000, true, 33},
		{319200, 1000000, true, 45},
		{1 << 62, 1, true, 353},
		{1 << 63, 1, false, 421},
		{math.MaxUint64, 0, false, 426},
		{math.MaxUint64, 1, false, 426},
		{math.MaxUint64, 2, false, 424},
		{math.MaxUint64, math.MaxUint64, false, 421},
		{math.MaxUint64, 0, true, 372},
		{math.MaxUint64, 1, true, 372},
		{math.MaxUint64, math.MaxUint64, true, 356},
	} {
		if got := bias.Adapt(x.delta, x.points, x.first); got != x.want {
			t.Errorf("Adapt(%d, %d, %v): %d, not %d", x.delta, x.points, x.first, got, x.want)
		}
	}
}

// adapts: Adapt answers as the chapter says, for the first number and others.
func adapts(t *testing.T, delta, points uint64) {
	t.Helper()
	for _, first := range []bool{true, false} {
		if got, want := bias.Adapt(delta, points, first), adapt(delta, points, first); got != want {
			t.Errorf("Adapt(%d, %d, %v): %d, not %d", delta, points, first, got, want)
		}
	}
}

func TestP91AdaptSmallNumbers(t *testing.T) {
	for delta := range uint64(3000) {
		for _, points := range []uint64{0, 1, 2, 3, 7, 100, math.MaxUint64} {
			adapts(t, delta, points)
		}
	}
}

func TestP91AdaptManyNumbers(t *testing.T) {
	l := numbers()
	for _, delta := range l {
		for _, points := range l {
			adapts(t, delta, points)
		}
	}
}

// Where one more division by 35 is needed, and where one by 700 or 2 gives one
// more: both sides of each border.
func TestP91AdaptAtTheBorders(t *testing.T) {
	for border := uint64(456); border < math.MaxUint64/2/35; border *= 35 {
		for _, by := range []uint64{2, 700} {
			if border > math.MaxUint64/by {
				continue
			}
			// So many points that nothing is added, one point that adds as much
			// again, and two that add half of it.
			for _, x := range []struct{ sum, points uint64 }{{border, math.MaxUint64}, {border / 2, 1}, {border / 2, 0}, {border / 3 * 2, 2}} {
				for d := x.sum*by - 2*by; d <= x.sum*by+2*by; d++ {
					adapts(t, d, x.points)
				}
			}
		}
	}
}

func TestP91ThresholdEverywhere(t *testing.T) {
	seen := map[int]bool{}
	for place := -60; place <= 1060; place++ {
		for under := -60; under <= 1060; under++ {
			got := bias.Threshold(place, under)
			if got != threshold(place, under) {
				t.Fatalf("Threshold(%d, %d): %d, not %d", place, under, got, threshold(place, under))
			}
			seen[got] = true
		}
	}
	if len(seen) != 26 {
		t.Error(len(seen), "thresholds")
	}
}

func TestP91Threshold(t *testing.T) {
	for _, x := range []struct{ place, under, want int }{
		{0, 72, 1}, {1, 72, 1}, {2, 72, 26}, {0, 0, 26}, {0, 9, 26}, {0, 10, 26}, {0, 11, 25}, {0, 12, 24},
		{0, 34, 2}, {0, 35, 1}, {0, 36, 1}, {0, 37, 1}, {1, 46, 26}, {1, 47, 25}, {1, 60, 12}, {1, 71, 1}, {1, 70, 2},
		{26, 1000, 1}, {27, 1000, 8}, {28, 1000, 26}, {27, 1001, 8}, {27, 1007, 8}, {27, 2000, 8}, {27, 999, 9},
		{1000, 1000, 26}, {1001, 1000, 26}, {1000, 1001, 26}, {999, 0, 26},
		{-1, 0, 26}, {-1, 20, 16}, {-2, 35, 1}, {-100, 20, 16}, {0, -1, 26}, {0, -100, 26}, {-1, -1, 26},
		{math.MinInt, 20, 16}, {math.MaxInt, 20, 26}, {27, math.MaxInt, 8}, {0, math.MaxInt, 1}, {0, math.MinInt, 26},
		{math.MinInt, math.MinInt, 26}, {math.MaxInt, math.MaxInt, 26}, {math.MinInt, math.MaxInt, 1}, {math.MaxInt, math.MinInt, 26},
		{math.MaxInt / 36, 0, 26}, {math.MaxInt/36 + 1, 1000, 26}, {math.MinInt / 36, 30, 6},
	} {
		if got := bias.Threshold(x.place, x.under); got != x.want {
			t.Errorf("Threshold(%d, %d): %d, not %d", x.place, x.under, got, x.want)
		}
	}
}

func TestP91DigitOfEveryByte(t *testing.T) {
	want := map[byte]int{}
	for i := range 26 {
		want[byte('a'+i)] = i
		want[byte('A'+i)] = i
	}
	for i := range 10 {
		want[byte('0'+i)] = 26 + i
	}
	for i := range 256 {
		b := byte(i)
		w, is := want[b]
		if got, ok := bias.Digit(b); got != w || ok != is {
			t.Errorf("Digit(%02X): %d, %v", b, got, ok)
		}
	}
}

func TestP91Letter(t *testing.T) {
	for d := range 36 {
		b, ok := bias.Letter(d)
		if b != row[d] || !ok {
			t.Errorf("Letter(%d): %q, %v", d, b, ok)
		}
		if back, is := bias.Digit(b); back != d || !is {
			t.Errorf("Digit(%q): %d, %v", b, back, is)
		}
	}
	wrong := []int{math.MinInt, math.MinInt + 1, -256, -220, -36, math.MaxInt - 1, math.MaxInt, 1 << 32}
	for d := 1; d <= 600; d++ {
		wrong = append(wrong, -d, 35+d)
	}
	for _, d := range wrong {
		if b, ok := bias.Letter(d); b != 0 || ok {
			t.Errorf("Letter(%d): %q, %v", d, b, ok)
		}
	}
}

// spelled are numbers, biases, and the digits of the ones under the others.
var spelled = []struct {
	n     uint64
	under int
	s     string
}{
	{0, 0, "a"}, {0, 72, "a"}, {0, 1000, "a"}, {0, -5, "a"}, {0, 5000, "a"},
	{1, 0, "b"}, {1, 34, "b"}, {1, 35, "ba"}, {1, 72, "ba"},
	{25, 0, "z"}, {25, 10, "z"}, {25, 11, "za"}, {26, 0, "0a"}, {26, 10, "0a"}, {35, 0, "9a"}, {35, 72, "9a"},
	{36, 0, "0b"}, {36, 35, "bb"}, {36, 36, "bb"}, {36, 72, "bba"}, {745, 0, "95e"}, {745, 36, "kv"},
	{745, 72, "kva"}, {745, 1000, "kva"}, {745, 1001, "kva"}, {745, -1, "95e"},
	{1 << 32, 0, "014870604b"}, {1 << 32, 72, "l0902716a"}, {1 << 32, 100, "l0t1336j"}, {1 << 32, 500, "l0fe1lca"},
	{top - 1, 0, "710994835921797227b"}, {top - 1, 72, "d4049608857257578a"}, {top - 1, 1000, "d4q5qhkjl10mba"},
	{top, 0, "810994835921797227b"}, {top, 36, "e4505640878653782k"}, {top, 72, "e4049608857257578a"},
	{top, 100, "e441288258952655k"}, {top, 1000, "e4q5qhkjl10mba"},
}

// beyond are numbers above 2^62, with their digits.
var beyond = []struct {
	n     uint64
	under int
	s     string
}{
	{top + 1, 0, "910994835921797227b"}, {top + 1, 72, "f4049608857257578a"}, {top + 1, 1000, "f4q5qhkjl10mba"},
	{1 << 63, 0, "229688569741384433g"}, {1 << 63, 72, "iz767205604493046e"}, {1 << 63, 1000, "iz717ouswtszca"},
	{math.MaxUint64, 0, "927266028481558755p"}, {math.MaxUint64, 36, "p47862588714906183c"},
	{math.MaxUint64, 72, "pp124498107776961m"}, {math.MaxUint64, 1000, "pp6u63fckecqfa"},
}

func TestP92Put(t *testing.T) {
	for _, x := range slices.Concat(spelled, beyond) {
		if got := bias.Put(x.n, x.under); got != x.s {
			t.Errorf("Put(%d, %d): %q, not %q", x.n, x.under, got, x.s)
		}
	}
}

func TestP92PutManyNumbers(t *testing.T) {
	for _, under := range biases() {
		for _, n := range numbers() {
			isRow(t, bias.Put(n, under), n, under)
		}
	}
}

// On both sides of the threshold of each of the first places.
func TestP92PutAboutThresholds(t *testing.T) {
	for _, under := range biases() {
		weight, least := uint64(1), uint64(0)
		for place := range 8 {
			limit := uint64(threshold(place, under))
			// least: all digits ahead are as small as they can be; at limit one
			// more digit is needed than below it.
			border := least + limit*weight
			short, long := bias.Put(border-1, under), bias.Put(border, under)
			isRow(t, short, border-1, under)
			isRow(t, long, border, under)
			if len(short) != place+1 || len(long) != place+2 {
				t.Errorf("under %d: %d is %q, %d is %q", under, border-1, short, border, long)
			}
			least = border
			weight *= 36 - limit
		}
	}
}

func TestP92Get(t *testing.T) {
	for _, x := range spelled {
		if got, want := get(x.s, 0, x.under), (answer{x.n, len(x.s), api.OK}); got != want {
			t.Errorf("Get(%q, 0, %d): %v, not %v", x.s, x.under, got, want)
		}
	}
	for _, x := range []struct {
		s         string
		at, under int
		want      answer
	}{
		{"x-KVA", 2, 72, answer{745, 5, api.OK}},
		{"x-kva", 2, 72, answer{745, 5, api.OK}},
		{"x-kVaB", 2, 72, answer{745, 5, api.OK}},
		{"kva", 1, 72, answer{21, 3, api.OK}},
		{"kva", 2, 72, answer{0, 3, api.OK}},
		{"kva-", 2, 72, answer{0, 3, api.OK}},
		{"\xFFa\x80", 1, 72, answer{0, 2, api.OK}},
		{"aa", 0, 72, answer{0, 1, api.OK}},
		{"z", 0, 0, answer{25, 1, api.OK}},
		{"Z", 0, -1, answer{25, 1, api.OK}},
		{"9A", 0, 2000, answer{35, 2, api.OK}},
	} {
		if got := get(x.s, x.at, x.under); got != x.want {
			t.Errorf("Get(%q, %d, %d): %v, not %v", x.s, x.at, x.under, got, x.want)
		}
	}
}

func TestP92GetGoesWrong(t *testing.T) {
	for _, x := range []struct {
		s         string
		at, under int
		err       api.Errno
	}{
		{"", -1, 72, api.ErrArg}, {"", 1, 72, api.ErrArg}, {"a", 2, 72, api.ErrArg}, {"a", -1, 72, api.ErrArg},
		{"kva", 4, 72, api.ErrArg}, {"kva", math.MaxInt, 72, api.ErrArg}, {"kva", math.MinInt, 72, api.ErrArg},
		{"---", 4, 0, api.ErrArg}, {"---", -1, 0, api.ErrArg},
		{"", 0, 72, api.ErrCut}, {"a", 1, 72, api.ErrCut}, {"k", 0, 72, api.ErrCut}, {"kv", 0, 72, api.ErrCut},
		{"kv", 2, 72, api.ErrCut}, {"akv", 1, 72, api.ErrCut}, {"0", 0, 0, api.ErrCut}, {"9999", 0, 0, api.ErrCut},
		{"k-a", 0, 72, api.ErrForm}, {"-kva", 0, 72, api.ErrForm}, {"kv\x00", 0, 72, api.ErrForm},
		{"kva-", 3, 72, api.ErrForm}, {"\xC3\xBC", 0, 72, api.ErrForm}, {"k\xFFa", 0, 72, api.ErrForm},
		{"9999999999999999999", 0, 72, api.ErrLong}, {"9999999999999999999-", 0, 72, api.ErrLong},
		{"810994835921797227c", 0, 0, api.ErrLong}, {"e4049608857257578b", 0, 72, api.ErrLong},
		{"e4q5qhkjl10mb", 0, 1000, api.ErrCut}, {"e4q5qhkjl10mb!", 0, 1000, api.ErrForm},
		{"e4q5qhkjl10mc", 0, 1000, api.ErrLong}, {"e4q5qhkjl10mc!", 0, 1000, api.ErrLong},
		{"e4q5qhkjl10mbb", 0, 1000, api.ErrLong},
	} {
		if got := get(x.s, x.at, x.under); got != (answer{err: x.err}) {
			t.Errorf("Get(%q, %d, %d): %v, not %d", x.s, x.at, x.under, got, x.err)
		}
	}
	for _, x := range beyond {
		if got := get(x.s, 0, x.under); got != (answer{err: api.ErrLong}) {
			t.Errorf("Get(%q, 0, %d): %v", x.s, x.under, got)
		}
	}
}

// Every byte as a first digit, and behind digits that go on.
func TestP92GetEveryByte(t *testing.T) {
	for i := range 256 {
		b := string([]byte{byte(i)})
		for _, under := range biases() {
			for _, ahead := range []string{"", "9", "99", "0z", "k9Z9"} {
				reads(t, ahead+b, 0, under)
				reads(t, ahead+b+"a", 0, under)
				reads(t, ahead+b+"-", 0, under)
			}
		}
	}
}

func TestP92GetAtEveryPlace(t *testing.T) {
	for _, s := range []string{"", "a", "-", "bcher-kva", "kvaKVA9999-0a\x80b", "ihqwcrb4cv8a8dqg056pqjye", strings.Repeat("9", 60) + "a"} {
		for at := -3; at <= len(s)+3; at++ {
			for _, under := range biases() {
				reads(t, s, at, under)
			}
		}
	}
}

// About 2^62: the numbers themselves, a text that ends or goes wrong at each
// digit, and any other digit there.
func TestP92GetAboutTheGreatestNumber(t *testing.T) {
	for _, under := range biases() {
		for _, n := range []uint64{top - 1, top, top + 1, top + 36} {
			s := bias.Put(n, under)
			want := answer{n, len(s), api.OK}
			if n > top {
				want = answer{err: api.ErrLong}
			}
			if got := get(s, 0, under); got != want {
				t.Errorf("Get(%q, 0, %d): %v, not %v", s, under, got, want)
			}
			for i := range len(s) {
				reads(t, s[:i], 0, under)
				reads(t, s[:i]+"-"+s[i:], 0, under)
				for _, d := range row {
					reads(t, s[:i]+string(d)+s[i+1:], 0, under)
					reads(t, s[:i]+string(d), 0, under)
					reads(t, s[:i]+string(d)+"!", 0, under)
				}
			}
		}
	}
}

// The digits that go on and are worth least take the weights as high as they
// can be; behind them nothing wraps round.
func TestP92GetWithTheGreatestWeights(t *testing.T) {
	for _, under := range biases() {
		s, goesOn := "", true
		for place := 0; goesOn; place++ {
			for _, d := range row {
				for _, behind := range []string{"", "a", "b", "9", "9999999999999999999", "-"} {
					reads(t, s+string(d)+behind, 0, under)
				}
			}
			s += row[threshold(place, under):][:1]
			goesOn = read(s, 0, under).err == api.ErrCut
		}
		if got := get(s, 0, under); got != (answer{err: api.ErrLong}) {
			t.Errorf("Get(%q, 0, %d): %v", s, under, got)
		}
	}
}

// mixedText: digits of both kinds of letters, most of which go on, and now and
// then something else.
func mixedText(r *source) string {
	const all = row + "ABCDEFGHIJKLMNOPQRSTUVWXYZ"
	out := make([]byte, r.below(40))
	for i := range out {
		switch r.below(40) {
		case 0:
			out[i] = byte(r.next())
		case 1, 2, 3, 4, 5:
			out[i] = "bcDe"[r.below(4)]
		default:
			out[i] = all[1+r.below(len(all)-1)]
		}
	}
	return string(out)
}

func TestP92GetMixedTexts(t *testing.T) {
	r := source(62)
	l := biases()
	seen := map[api.Errno]int{}
	for range 100000 {
		s := mixedText(&r)
		at, under := r.below(len(s)+1), l[r.below(len(l))]
		reads(t, s, at, under)
		seen[read(s, at, under).err]++
	}
	for _, e := range []api.Errno{api.OK, api.ErrCut, api.ErrForm, api.ErrLong} {
		if seen[e] < 100 {
			t.Error("error", e, "came", seen[e], "times")
		}
	}
}

func TestP92GetOfALongText(t *testing.T) {
	s := strings.Repeat("9", 1<<20)
	for _, under := range biases() {
		for _, at := range []int{0, 1, 1 << 19, 1<<20 - 30, 1<<20 - 5, 1<<20 - 1, 1 << 20} {
			reads(t, s, at, under)
		}
	}
}

func TestP93WhatIsPutIsGot(t *testing.T) {
	for _, under := range biases() {
		for _, n := range numbers() {
			s := bias.Put(n, under)
			for _, x := range []struct{ ahead, behind string }{{"", ""}, {"", "9"}, {"bcher-", ""}, {"\xFF9", "-a"}, {"aZ", "\x80"}} {
				text := x.ahead + s + x.behind
				want := answer{n, len(x.ahead) + len(s), api.OK}
				if n > top {
					want = answer{err: api.ErrLong}
				}
				if got := get(text, len(x.ahead), under); got != want {
					t.Fatalf("Get(%q, %d, %d): %v, not %v", text, len(x.ahead), under, got, want)
				}
			}
			great := strings.ToUpper(s)
			if got := get(great, 0, under); got != get(s, 0, under) {
				t.Fatalf("Get(%q, 0, %d): %v", great, under, got)
			}
		}
	}
}

func TestP93WhatIsGotIsPutAgain(t *testing.T) {
	r := source(93)
	l := biases()
	times := 0
	for range 100000 {
		s := mixedText(&r)
		at, under := r.below(len(s)+1), l[r.below(len(l))]
		got := get(s, at, under)
		if got.err != api.OK {
			continue
		}
		times++
		if again := bias.Put(got.n, under); again != strings.ToLower(s[at:got.next]) {
			t.Fatalf("%q from %d to %d, under %d: %d, which is put %q", s, at, got.next, under, got.n, again)
		}
	}
	if times < 1000 {
		t.Error("got", times, "times")
	}
}

// All rows of up to three digits: unlike numbers have unlike ones, and none has two.
func TestP93EachNumberHasOneRow(t *testing.T) {
	for _, under := range []int{0, 20, 36, 50, 72, 90, 1000} {
		seen := map[uint64]string{}
		for i := range 36 * 36 * 36 {
			s := string([]byte{row[i/1296], row[i/36%36], row[i%36]})
			got := get(s, 0, under)
			if got.err != api.OK {
				continue
			}
			s = s[:got.next]
			if other, ok := seen[got.n]; ok && other != s {
				t.Fatalf("under %d %q and %q are both %d", under, other, s, got.n)
			}
			seen[got.n] = s
			if again := bias.Put(got.n, under); again != s {
				t.Fatalf("under %d %q is %d, which is put %q", under, s, got.n, again)
			}
		}
	}
}

// Numbers one behind the other, each under the bias of the one ahead, as whole
// texts of Punycode have them.
func TestP93NumbersInARow(t *testing.T) {
	for _, x := range []struct {
		basic  uint64
		digits string
		list   []uint64
	}{
		{5, "kva", []uint64{0xFC}},
		{0, "tda", []uint64{0xFC}},
		{0, "dn32g", []uint64{0x10FFFF}},
		{0, "egbpdaj6bu4bxfgehfvwxn", []uint64{0x61F, 0x627, 0x628, 0x628, 0x62A, 0x631, 0x634, 0x639, 0x643, 0x644, 0x644, 0x645, 0x645, 0x647, 0x648, 0x64A, 0x64A}},
		{0, "ihqwcrb4cv8a8dqg056pqjye", []uint64{0x4E0D, 0x4E2D, 0x4E3A, 0x4E48, 0x4EC0, 0x4ED6, 0x4EEC, 0x6587, 0x8BF4}},
		{18, "uyb24dma41a", []uint64{0xED, 0x10D, 0x10D, 0x11B}},
		{2, "ww4c5e180e575a65lsy2b", []uint64{0x5148, 0x516B, 0x5E74, 0x751F, 0x7D44, 0x91D1}},
		{18, "fc4qua05auwb3674vfr0b", []uint64{0x305D, 0x305E, 0x306E, 0x308C, 0x308C, 0x5834, 0x6240}},
	} {
		n, i, points, under, at := uint64(0x80), uint64(0), x.basic, 72, 0
		var list []uint64
		again := ""
		for at < len(x.digits) {
			got := get(x.digits, at, under)
			if got.err != api.OK {
				t.Fatalf("%q at %d under %d: %v", x.digits, at, under, got)
			}
			again += bias.Put(got.n, under)
			points++
			i += got.n
			n += i / points
			i = i%points + 1
			list = append(list, n)
			under = bias.Adapt(got.n, points, at == 0)
			at = got.next
		}
		if !slices.Equal(list, x.list) || again != x.digits {
			t.Errorf("%q: %X, put again %q", x.digits, list, again)
		}
	}
}

// What is handed in stays as it is, what stands about it too, and so does what
// was answered.
func TestWhatIsHandedInAndAnsweredStays(t *testing.T) {
	whole := "x-KVA-kva9999999999999999999"
	was := strings.Clone(whole)
	put := bias.Put(745, 72)
	for from := range len(whole) {
		for to := from; to <= len(whole); to++ {
			first := get(whole[from:to], 0, 72)
			bias.Put(first.n+1, 100)
			if again := get(whole[from:to], 0, 72); again != first || again != get(whole[:to], from, 72).less(from) {
				t.Fatal(from, to, first, again)
			}
		}
	}
	if whole != was || put != "kva" || bias.Put(745, 72) != put {
		t.Error(whole, put)
	}
}

// less: the answer, if so many bytes didn't stand ahead.
func (a answer) less(bytes int) answer {
	if a.err == api.OK {
		a.next -= bytes
	}
	return a
}

func TestExamples(t *testing.T) {
	if s := bias.Put(745, 72); s != "kva" {
		t.Error(s)
	}
	if got := get("kva", 0, 72); got != (answer{745, 3, api.OK}) {
		t.Error(got)
	}
	if s := bias.Put(0, 72); s != "a" {
		t.Error(s)
	}
	if b := bias.Adapt(745, 6, true); b != 0 {
		t.Error(b)
	}
	if a, b := bias.Threshold(0, 72), bias.Threshold(2, 72); a != 1 || b != 26 {
		t.Error(a, b)
	}
}
