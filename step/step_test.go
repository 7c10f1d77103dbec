package step_test

import (
	"math"
	"slices"
	"strings"
	"testing"

	"pilcrow/api"
	"pilcrow/step"
)

// base is the calls of a Base, wherever they come from.
type base interface {
	At() int
	Fail() api.Fail
	Going() bool
	Eat(n int)
	Stop(e api.Errno)
	End()
}

// row is the calls of a Row, wherever they come from.
type row interface {
	Hold(l ...uint32)
	Tell(room int) []uint32
	Held() int
}

// pend is the calls of a Pend, wherever they come from.
type pend interface {
	Keep(s string)
	Give(room int) string
	Kept() int
}

// eachBase runs a test on a new Base: on one by itself, and as a part.
func eachBase(t *testing.T, f func(t *testing.T, fresh func() base)) {
	t.Run("Base", func(t *testing.T) { f(t, func() base { return new(step.Base) }) })
	t.Run("In", func(t *testing.T) { f(t, func() base { return new(step.In) }) })
	t.Run("Out", func(t *testing.T) { f(t, func() base { return new(step.Out) }) })
}

func eachRow(t *testing.T, f func(t *testing.T, fresh func() row)) {
	t.Run("Row", func(t *testing.T) { f(t, func() row { return new(step.Row) }) })
	t.Run("In", func(t *testing.T) { f(t, func() row { return new(step.In) }) })
}

func eachPend(t *testing.T, f func(t *testing.T, fresh func() pend)) {
	t.Run("Pend", func(t *testing.T) { f(t, func() pend { return new(step.Pend) }) })
	t.Run("Out", func(t *testing.T) { f(t, func() pend { return new(step.Out) }) })
}

// move is one call that may change a Base.
type move struct {
	name string
	n    int
	e    api.Errno
}

var moves = []move{
	{"Eat", 1, 0}, {"Eat", 3, 0}, {"Eat", 0, 0}, {"Eat", -2, 0}, {"Eat", math.MinInt, 0},
	{"Stop", 0, api.OK}, {"Stop", 0, api.ErrForm}, {"Stop", 0, api.ErrMore},
	{"End", 0, 0},
}

func (m move) do(b base) {
	switch m.name {
	case "Eat":
		b.Eat(m.n)
	case "Stop":
		b.Stop(m.e)
	case "End":
		b.End()
	}
}

// closes: does this call end what goes on?
func (m move) closes() bool { return m.name == "End" || m.name == "Stop" && m.e != api.OK }

// state is all that a Base tells.
type state struct {
	at    int
	fail  api.Fail
	going bool
}

func stateOf(b base) state { return state{b.At(), b.Fail(), b.Going()} }

// wanted: the state behind some calls: the first one that closes decides, and what is eaten ahead of it counts.
func wanted(l []move) state {
	s := state{going: true}
	for _, m := range l {
		if m.closes() {
			s.going = false
			if m.name == "Stop" {
				s.fail = api.Fail{Err: m.e, At: s.at}
			}
			return s
		}
		if m.name == "Eat" && m.n >= 1 {
			s.at += m.n
		}
	}
	return s
}

// everyOrder calls f with every list of n moves.
func everyOrder(n int, f func(l []move)) {
	l := make([]move, n)
	var fill func(i int)
	fill = func(i int) {
		if i == n {
			f(l)
			return
		}
		for _, m := range moves {
			l[i] = m
			fill(i + 1)
		}
	}
	fill(0)
}

func TestP21ZeroValues(t *testing.T) {
	eachBase(t, func(t *testing.T, fresh func() base) {
		if got := stateOf(fresh()); got != (state{0, api.Fail{}, true}) {
			t.Error(got)
		}
	})
}

func TestP21EveryOrderOfCalls(t *testing.T) {
	eachBase(t, func(t *testing.T, fresh func() base) {
		for n := range 5 {
			everyOrder(n, func(l []move) {
				b := fresh()
				for _, m := range l {
					m.do(b)
				}
				if got := stateOf(b); got != wanted(l) {
					t.Errorf("behind %v: %v, not %v", l, got, wanted(l))
				}
			})
		}
	})
}

func TestP21EveryCallOnTheWay(t *testing.T) {
	eachBase(t, func(t *testing.T, fresh func() base) {
		b := fresh()
		for i, x := range []struct {
			m    move
			want state
		}{
			{move{"Eat", 3, 0}, state{3, api.Fail{}, true}},
			{move{"Stop", 0, api.OK}, state{3, api.Fail{}, true}},
			{move{"Eat", 0, 0}, state{3, api.Fail{}, true}},
			{move{"Eat", -3, 0}, state{3, api.Fail{}, true}},
			{move{"Eat", 1, 0}, state{4, api.Fail{}, true}},
			{move{"Stop", 0, api.ErrForm}, state{4, api.Fail{Err: api.ErrForm, At: 4}, false}},
			{move{"Eat", 2, 0}, state{4, api.Fail{Err: api.ErrForm, At: 4}, false}},
			{move{"Stop", 0, api.ErrCut}, state{4, api.Fail{Err: api.ErrForm, At: 4}, false}},
			{move{"Stop", 0, api.OK}, state{4, api.Fail{Err: api.ErrForm, At: 4}, false}},
			{move{"End", 0, 0}, state{4, api.Fail{Err: api.ErrForm, At: 4}, false}},
		} {
			x.m.do(b)
			if got := stateOf(b); got != x.want {
				t.Errorf("behind call %d, %v: %v, not %v", i, x.m, got, x.want)
			}
		}
	})
}

func TestP21CallsBehindAnEnd(t *testing.T) {
	eachBase(t, func(t *testing.T, fresh func() base) {
		b := fresh()
		b.Eat(2)
		b.End()
		for _, m := range moves {
			m.do(b)
			if got := stateOf(b); got != (state{2, api.Fail{}, false}) {
				t.Errorf("behind End, %v: %v", m, got)
			}
		}
	})
}

func TestP21EveryError(t *testing.T) {
	eachBase(t, func(t *testing.T, fresh func() base) {
		for _, e := range []api.Errno{api.ErrArg, api.ErrScalar, api.ErrForm, api.ErrCut, api.ErrLong, api.ErrSum, api.ErrMagic, api.ErrCount, api.ErrUsage, api.ErrNil, api.ErrCodec, api.ErrVersion, api.ErrTotal, api.ErrMore, 15, -1, math.MinInt} {
			b := fresh()
			b.Stop(e)
			if got := stateOf(b); got != (state{0, api.Fail{Err: e}, false}) {
				t.Errorf("behind Stop(%d): %v", e, got)
			}
		}
	})
}

func TestP21GreatSteps(t *testing.T) {
	eachBase(t, func(t *testing.T, fresh func() base) {
		b := fresh()
		b.Eat(math.MaxInt32 - 1)
		b.Eat(1)
		b.Stop(api.ErrLong)
		if got := stateOf(b); got != (state{math.MaxInt32, api.Fail{Err: api.ErrLong, At: math.MaxInt32}, false}) {
			t.Error(got)
		}
	})
}

// rooms: below 1, for some, for all, and for more than any of these tests keeps.
var rooms = []int{math.MinInt, -1, 0, 1, 2, 3, 4, 5, 6, 7, 100, math.MaxInt}

// count: how many of n are answered where there is room.
func count(room, n int) int {
	switch {
	case room < 1:
		return 0
	case room < n:
		return room
	}
	return n
}

func TestP22EmptyRow(t *testing.T) {
	eachRow(t, func(t *testing.T, fresh func() row) {
		for _, room := range rooms {
			w := fresh()
			if w.Held() != 0 || len(w.Tell(room)) != 0 || w.Held() != 0 {
				t.Errorf("a zero value with room %d", room)
			}
			w.Hold()
			w.Hold([]uint32{}...)
			w.Hold([]uint32(nil)...)
			if w.Held() != 0 || len(w.Tell(room)) != 0 {
				t.Errorf("none held, with room %d", room)
			}
		}
	})
}

func TestP22EmptyPend(t *testing.T) {
	eachPend(t, func(t *testing.T, fresh func() pend) {
		for _, room := range rooms {
			p := fresh()
			if p.Kept() != 0 || p.Give(room) != "" || p.Kept() != 0 {
				t.Errorf("a zero value with room %d", room)
			}
			p.Keep("")
			if p.Kept() != 0 || p.Give(room) != "" {
				t.Errorf("none kept, with room %d", room)
			}
		}
	})
}

func TestP22RowByRoom(t *testing.T) {
	all := []uint32{0, 0xD800, 0x110000, 0xFFFFFFFF, 7, 0x41}
	eachRow(t, func(t *testing.T, fresh func() row) {
		for _, room := range rooms {
			w := fresh()
			w.Hold(all[:2]...)
			w.Hold()
			w.Hold(all[2])
			w.Hold(all[3], all[4], all[5])
			n := count(room, len(all))
			if got := w.Tell(room); !slices.Equal(got, all[:n]) || w.Held() != len(all)-n {
				t.Errorf("Tell(%d) = %X, %d held", room, got, w.Held())
			}
			if got := w.Tell(100); !slices.Equal(got, all[n:]) || w.Held() != 0 {
				t.Errorf("the rest behind Tell(%d): %X, %d held", room, got, w.Held())
			}
		}
	})
}

func TestP22PendByRoom(t *testing.T) {
	const all = "a\x00\xff\xc3b\n"
	eachPend(t, func(t *testing.T, fresh func() pend) {
		for _, room := range rooms {
			p := fresh()
			p.Keep(all[:2])
			p.Keep("")
			p.Keep(all[2:3])
			p.Keep(all[3:])
			n := count(room, len(all))
			if got := p.Give(room); got != all[:n] || p.Kept() != len(all)-n {
				t.Errorf("Give(%d) = %q, %d kept", room, got, p.Kept())
			}
			if got := p.Give(100); got != all[n:] || p.Kept() != 0 {
				t.Errorf("the rest behind Give(%d): %q, %d kept", room, got, p.Kept())
			}
		}
	})
}

// tours: how many come, and the room for them, by turns.
var tours = [][][2]int{
	{{1, 1}, {1, 1}, {1, 1}, {2, 2}, {4, 4}},
	{{3, 1}, {3, 1}, {3, 1}, {0, 2}, {0, 9}},
	{{5, 0}, {1, -1}, {0, 3}, {9, 4}, {0, 1}, {2, 9}},
	{{2, 5}, {0, 1}, {7, 6}, {1, 1}, {1, 2}},
	{{100, 99}, {100, 1}, {0, 100}, {1, 1}, {1000, 500}, {1000, 1500}},
}

func TestP22RowByTurns(t *testing.T) {
	eachRow(t, func(t *testing.T, fresh func() row) {
		for _, tour := range tours {
			w, next, told := fresh(), 0, 0
			for _, x := range tour {
				for range x[0] {
					w.Hold(uint32(next))
					next++
				}
				got := w.Tell(x[1])
				if len(got) != count(x[1], next-told) {
					t.Fatalf("%v: Tell(%d) has %d", tour, x[1], len(got))
				}
				for _, c := range got {
					if c != uint32(told) {
						t.Fatalf("%v: %d told for %d", tour, c, told)
					}
					told++
				}
				if w.Held() != next-told {
					t.Fatalf("%v: %d held, not %d", tour, w.Held(), next-told)
				}
			}
		}
	})
}

func TestP22PendByTurns(t *testing.T) {
	eachPend(t, func(t *testing.T, fresh func() pend) {
		for _, tour := range tours {
			p, next, told := fresh(), 0, 0
			for _, x := range tour {
				for range x[0] {
					p.Keep(string([]byte{byte(next)}))
					next++
				}
				got := p.Give(x[1])
				if len(got) != count(x[1], next-told) {
					t.Fatalf("%v: Give(%d) has %d", tour, x[1], len(got))
				}
				for i := range len(got) {
					if got[i] != byte(told) {
						t.Fatalf("%v: %d given for %d", tour, got[i], byte(told))
					}
					told++
				}
				if p.Kept() != next-told {
					t.Fatalf("%v: %d kept, not %d", tour, p.Kept(), next-told)
				}
			}
		}
	})
}

// Many small answers of much that waits must end in good time.
func TestP22MuchThatWaits(t *testing.T) {
	const n = 1 << 20
	eachRow(t, func(t *testing.T, fresh func() row) {
		w := fresh()
		for c := range uint32(n) {
			w.Hold(c)
		}
		for c := range uint32(n) {
			if l := w.Tell(1); len(l) != 1 || l[0] != c {
				t.Fatalf("%X told for %X", l, c)
			}
		}
		if w.Held() != 0 {
			t.Error(w.Held())
		}
	})
	eachPend(t, func(t *testing.T, fresh func() pend) {
		p := fresh()
		for range n / 4 {
			p.Keep("abcd")
		}
		for i := range n {
			if s := p.Give(1); s != "abcd"[i%4:i%4+1] {
				t.Fatalf("%q given at %d", s, i)
			}
		}
		if p.Kept() != 0 {
			t.Error(p.Kept())
		}
	})
}

func TestP22WhatIsHeldIsACopy(t *testing.T) {
	eachRow(t, func(t *testing.T, fresh func() row) {
		room := []uint32{1, 2, 3, 4, 5}
		w := fresh()
		w.Hold(room[:2]...)
		w.Hold(8, 9)
		if !slices.Equal(room, []uint32{1, 2, 3, 4, 5}) {
			t.Errorf("what was handed in is now %v", room)
		}
		room[0], room[1], room[2] = 70, 71, 72
		if got := w.Tell(9); !slices.Equal(got, []uint32{1, 2, 8, 9}) {
			t.Errorf("told: %v", got)
		}
		if !slices.Equal(room, []uint32{70, 71, 72, 4, 5}) {
			t.Errorf("behind Tell, what was handed in is %v", room)
		}
	})
}

func TestP22WhatIsToldIsNewMemory(t *testing.T) {
	eachRow(t, func(t *testing.T, fresh func() row) {
		w := fresh()
		w.Hold(1, 2, 3, 4)
		a := w.Tell(2)
		_ = append(a, 90, 91, 92)
		a[0], a[1] = 80, 81
		b := w.Tell(1)
		_ = append(b, 93)
		w.Hold(5)
		c := w.Tell(9)
		_ = append(c, 94, 95)
		w.Hold(6, 7)
		if !slices.Equal(a, []uint32{80, 81}) || !slices.Equal(b, []uint32{3}) || !slices.Equal(c, []uint32{4, 5}) {
			t.Errorf("told: %v %v %v", a, b, c)
		}
		c[0] = 82
		if got := w.Tell(9); !slices.Equal(got, []uint32{6, 7}) {
			t.Errorf("told: %v", got)
		}
	})
}

func TestP22WhatIsGivenStays(t *testing.T) {
	eachPend(t, func(t *testing.T, fresh func() pend) {
		p := fresh()
		p.Keep("abcd")
		a := p.Give(2)
		p.Keep("ef")
		b := p.Give(9)
		p.Keep("ghijkl")
		if a != "ab" || b != "cdef" || p.Kept() != 6 {
			t.Errorf("given: %q %q, %d kept", a, b, p.Kept())
		}
	})
}

// machine is a Base with something that waits.
type machine interface {
	base
	Done() bool
}

// waits is how a test fills and empties a machine.
type waits struct {
	machine
	wait  func(n int)
	take  func(room int) int
	count func() int
}

func anIn() waits {
	var i step.In
	return waits{&i, func(n int) { i.Hold(make([]uint32, n)...) }, func(room int) int { return len(i.Tell(room)) }, i.Held}
}

func anOut() waits {
	var o step.Out
	return waits{&o, func(n int) { o.Keep(strings.Repeat("x", n)) }, func(room int) int { return len(o.Give(room)) }, o.Kept}
}

func eachMachine(t *testing.T, f func(t *testing.T, fresh func() waits)) {
	t.Run("In", func(t *testing.T) { f(t, anIn) })
	t.Run("Out", func(t *testing.T) { f(t, anOut) })
}

func TestP23Done(t *testing.T) {
	eachMachine(t, func(t *testing.T, fresh func() waits) {
		for _, held := range []int{0, 1, 3} {
			for n := range 3 {
				everyOrder(n, func(l []move) {
					m := fresh()
					m.wait(held)
					for _, x := range l {
						x.do(m)
					}
					over := !wanted(l).going
					if m.Done() != (over && held == 0) {
						t.Errorf("%d wait behind %v: Done() = %v", held, l, m.Done())
					}
					if m.take(9) != held || m.Done() != over {
						t.Errorf("none waits behind %v: Done() = %v", l, m.Done())
					}
				})
			}
		}
	})
}

func TestP23DoneOnTheWay(t *testing.T) {
	eachMachine(t, func(t *testing.T, fresh func() waits) {
		for _, stop := range []func(m waits){func(m waits) { m.End() }, func(m waits) { m.Stop(api.ErrScalar) }} {
			m := fresh()
			done := func(want bool, when string) {
				if m.Done() != want {
					t.Errorf("%s: Done() = %v", when, !want)
				}
			}
			done(false, "at the beginning")
			m.wait(3)
			done(false, "while it goes on, and 3 wait")
			stop(m)
			done(false, "over, and 3 wait")
			m.take(0)
			m.take(-1)
			m.take(2)
			done(false, "over, and 1 waits")
			m.take(1)
			done(true, "over, and none waits")
			m.wait(0)
			done(true, "over, and none came behind")
			m.wait(1)
			done(false, "over, and 1 came behind")
			m.take(5)
			done(true, "over, and none waits again")
		}
	})
}

func TestP23PartsKnowNothingOfEachOther(t *testing.T) {
	eachMachine(t, func(t *testing.T, fresh func() waits) {
		everyOrder(3, func(l []move) {
			m := fresh()
			for i, x := range l {
				m.wait(2)
				before := stateOf(m)
				if m.take(1) != 1 || stateOf(m) != before {
					t.Errorf("what waits moves a Base: %v, then %v", before, stateOf(m))
				}
				x.do(m)
				if m.count() != i+1 {
					t.Errorf("behind %v %d wait, not %d", l[:i+1], m.count(), i+1)
				}
			}
			if got := stateOf(m); got != wanted(l) {
				t.Errorf("behind %v: %v, not %v", l, got, wanted(l))
			}
		})
	})
}

func TestP23CallsAreThoseOfTheParts(t *testing.T) {
	var i step.In
	i.Eat(2)
	i.Hold(4, 5)
	if i.Base.At() != 2 || i.Row.Held() != 2 {
		t.Errorf("the parts of an In: at %d, %d held", i.Base.At(), i.Row.Held())
	}
	i.Base.Stop(api.ErrForm)
	i.Row.Tell(2)
	if i.Fail() != (api.Fail{Err: api.ErrForm, At: 2}) || !i.Done() {
		t.Errorf("an In by its parts: %v", i.Fail())
	}
	var o step.Out
	o.Eat(3)
	o.Keep("xyz")
	if o.Base.At() != 3 || o.Pend.Kept() != 3 {
		t.Errorf("the parts of an Out: at %d, %d kept", o.Base.At(), o.Pend.Kept())
	}
	o.Base.End()
	o.Pend.Give(3)
	if o.Going() || o.Fail() != (api.Fail{}) || !o.Done() {
		t.Errorf("an Out by its parts: %v", o.Fail())
	}
}

func TestP23ObjectsAreForThemselves(t *testing.T) {
	var a, b step.In
	a.Hold(1)
	b.Hold(2)
	a.Eat(5)
	a.Stop(api.ErrForm)
	if b.At() != 0 || !b.Going() || !slices.Equal(b.Tell(1), []uint32{2}) || !slices.Equal(a.Tell(1), []uint32{1}) {
		t.Error("two of them have something in common")
	}
}

func TestExample(t *testing.T) {
	eachBase(t, func(t *testing.T, fresh func() base) {
		b := fresh()
		b.Eat(3)
		b.Stop(api.ErrForm)
		b.Eat(2)
		b.End()
		if got := stateOf(b); got != (state{3, api.Fail{Err: api.ErrForm, At: 3}, false}) {
			t.Error(got)
		}
	})
}
