package wheel

import (
	"math"
	"slices"
	"testing"

	"rivulet/api"
)

// What is no number of a timer, from beside the edges to the ends of the numbers.
func noIDs() []int {
	return []int{-1, 256, 257, 511, -256, -255, 1 << 32, 1<<32 + 7, 1 << 62, math.MinInt, math.MaxInt}
}

// What is no number of ticks for a timer.
func noTicks() []int {
	return []int{0, -1, -5, api.MaxTick + 1, 1 << 41, 1 << 61, 1<<61 + 1, 1 << 62, math.MinInt, math.MaxInt}
}

// timer is one that a wheel should have.
type timer struct{ id, due int }

// must sets a timer that may be set.
func must(t *testing.T, w *Wheel, id, in int) {
	t.Helper()
	if e := w.Set(id, in); e != api.OK {
		t.Fatalf("Set(%d, %d): error %d", id, in, e)
	}
}

// wantWheel looks at all that a wheel tells: the time, and just these timers.
func wantWheel(t *testing.T, what string, w *Wheel, now int, l ...timer) {
	t.Helper()
	if w.Now() != now || w.Len() != len(l) {
		t.Errorf("%s: time %d, %d timers; want %d, %d", what, w.Now(), w.Len(), now, len(l))
	}
	want := map[int]int{}
	for _, x := range l {
		want[x.id] = x.due
	}
	first, e := 0, api.ErrNone
	for id := range 256 {
		due, there := want[id]
		wantDue(t, what, w, id, due, there)
		if there && (e == api.ErrNone || due < first) {
			first, e = due, api.OK
		}
	}
	if n, got := w.Next(); n != first || got != e {
		t.Errorf("%s: Next: %d, error %d; want %d, error %d", what, n, got, first, e)
	}
}

func wantDue(t *testing.T, what string, w *Wheel, id, due int, there bool) {
	t.Helper()
	e := api.OK
	if !there {
		e = api.ErrNone
	}
	if n, got := w.Due(id); n != due || got != e {
		t.Errorf("%s: Due(%d): %d, error %d; want %d, error %d", what, id, n, got, due, e)
	}
}

func wantFired(t *testing.T, what string, got []int, want ...int) {
	t.Helper()
	if !slices.Equal(got, want) {
		t.Errorf("%s: %v fire, want %v", what, got, want)
	}
}

func wantRun(t *testing.T, w *Wheel, n int, want ...int) {
	t.Helper()
	got, e := w.Run(n)
	if e != api.OK || !slices.Equal(got, want) {
		t.Errorf("Run(%d): %v, error %d; want %v", n, got, e, want)
	}
}

// atEnd is a wheel that has so many ticks left till the last time.
func atEnd(t *testing.T, left int) *Wheel {
	t.Helper()
	var w Wheel
	for range 1<<21 - 1 {
		if fired, e := w.Run(api.MaxTick); len(fired) != 0 || e != api.OK {
			t.Fatalf("at %d: %v, error %d", w.Now(), fired, e)
		}
	}
	wantRun(t, &w, api.MaxTick-left)
	wantWheel(t, "near the end", &w, 1<<61-left)
	return &w
}

// The zero Wheel, and one after another timer.
func TestSet(t *testing.T) {
	var w Wheel
	wantWheel(t, "zero", &w, 0)
	must(t, &w, 0, 1)
	must(t, &w, 255, api.MaxTick)
	must(t, &w, 7, 3)
	wantWheel(t, "set", &w, 0, timer{0, 1}, timer{255, 1 << 40}, timer{7, 3})
	wantFired(t, "first", w.Tick(), 0)
	must(t, &w, 9, 3)
	must(t, &w, 8, api.MaxTick)
	wantWheel(t, "set later", &w, 1, timer{7, 3}, timer{9, 4}, timer{255, 1 << 40}, timer{8, 1<<40 + 1})
}

// P10.1: every number from 0 to 255 is one of a timer of its own.
func TestSetAll(t *testing.T) {
	var w Wheel
	var all []timer
	var rising []int
	for id := range 256 {
		must(t, &w, 255-id, 10)
		all = append(all, timer{id, 10})
		rising = append(rising, id)
	}
	wantWheel(t, "all", &w, 0, all...)
	wantRun(t, &w, 10, rising...)
	wantWheel(t, "behind them", &w, 10)
}

// P10.1: a timer stands in place of the elder one, due sooner or later.
func TestSetAgain(t *testing.T) {
	var w Wheel
	must(t, &w, 3, 5)
	must(t, &w, 3, 2)
	must(t, &w, 4, 2)
	must(t, &w, 4, 5)
	wantWheel(t, "again", &w, 0, timer{3, 2}, timer{4, 5})
	wantRun(t, &w, 1)
	must(t, &w, 3, 2)
	wantWheel(t, "again, later", &w, 1, timer{3, 3}, timer{4, 5})
	wantRun(t, &w, 10, 3, 4)
	must(t, &w, 3, 1)
	wantWheel(t, "behind its firing", &w, 11, timer{3, 12})
}

// P10.1: wrong numbers and ticks, which change nothing.
func TestSetRefuses(t *testing.T) {
	for _, start := range []int{0, 20} {
		var w Wheel
		wantRun(t, &w, start)
		must(t, &w, 7, 9)
		for _, id := range noIDs() {
			for _, in := range append(noTicks(), 1, 9, api.MaxTick) {
				if e := w.Set(id, in); e != api.ErrArg {
					t.Errorf("Set(%d, %d): error %d", id, in, e)
				}
			}
			wantDue(t, "refused", &w, id, 0, false)
		}
		for _, in := range noTicks() {
			for _, id := range []int{0, 1, 7, 255} {
				if e := w.Set(id, in); e != api.ErrArg {
					t.Errorf("Set(%d, %d): error %d", id, in, e)
				}
			}
		}
		wantWheel(t, "refused", &w, start, timer{7, start + 9})
	}
	var empty Wheel
	empty.Set(256, 1)
	empty.Set(1, 0)
	wantWheel(t, "refused by an empty one", &empty, 0)
}

// P10.1: times up to 2^61, and above it; ErrArg is told ahead of ErrOver.
func TestSetOver(t *testing.T) {
	for _, left := range []int{3, 1, 0} {
		w := atEnd(t, left)
		var l []timer
		if left > 0 {
			must(t, w, 5, 1)
			must(t, w, 6, left)
			l = []timer{{5, 1<<61 - left + 1}, {6, 1 << 61}}
		}
		for _, in := range []int{left + 1, left + 2, api.MaxTick} {
			for _, id := range []int{0, 5, 6, 255} {
				if e := w.Set(id, in); e != api.ErrOver {
					t.Errorf("%d left, Set(%d, %d): error %d", left, id, in, e)
				}
			}
		}
		for _, in := range noTicks() {
			if e := w.Set(1, in); e != api.ErrArg {
				t.Errorf("%d left, Set(1, %d): error %d", left, in, e)
			}
		}
		if e := w.Set(256, api.MaxTick); e != api.ErrArg {
			t.Errorf("%d left, Set(256, ..): error %d", left, e)
		}
		wantWheel(t, "over", w, 1<<61-left, l...)
	}
}

// P10.1: Cancel counts those that were there, each of them once.
func TestCancel(t *testing.T) {
	for i, y := range []struct {
		ids  []int
		want int
		left []timer
	}{
		{nil, 0, []timer{{0, 1}, {4, 9}, {255, 5}}},
		{[]int{}, 0, []timer{{0, 1}, {4, 9}, {255, 5}}},
		{[]int{4}, 1, []timer{{0, 1}, {255, 5}}},
		{[]int{4, 4, 4}, 1, []timer{{0, 1}, {255, 5}}},
		{[]int{0, 255}, 2, []timer{{4, 9}}},
		{[]int{255, 1, 0, 2, 4, 0}, 3, nil},
		{[]int{1, 2, 254}, 0, []timer{{0, 1}, {4, 9}, {255, 5}}},
		{append(noIDs(), 0), 1, []timer{{4, 9}, {255, 5}}},
		{noIDs(), 0, []timer{{0, 1}, {4, 9}, {255, 5}}},
	} {
		var w Wheel
		must(t, &w, 0, 1)
		must(t, &w, 4, 9)
		must(t, &w, 255, 5)
		before := slices.Clone(y.ids)
		if n := w.Cancel(y.ids...); n != y.want {
			t.Errorf("%d: Cancel: %d, want %d", i, n, y.want)
		}
		if !slices.Equal(before, y.ids) {
			t.Errorf("%d: the numbers became %v", i, y.ids)
		}
		wantWheel(t, "cancelled", &w, 0, y.left...)
		if n := w.Cancel(y.ids...); n != 0 {
			t.Errorf("%d: Cancel once more: %d", i, n)
		}
		if fired, _ := w.Run(20); len(fired) != len(y.left) {
			t.Errorf("%d: %v fire of %v", i, fired, y.left)
		}
		if n := w.Cancel(0, 4, 255); n != 0 {
			t.Errorf("%d: Cancel of what fired: %d", i, n)
		}
	}
	var empty Wheel
	if n := empty.Cancel(1, 2); n != 0 || empty.Len() != 0 {
		t.Errorf("Cancel of an empty one: %d", n)
	}
}

// P10.1, P10.2: one that was cancelled may be set again.
func TestSetBehindCancel(t *testing.T) {
	var w Wheel
	must(t, &w, 3, 2)
	w.Cancel(3)
	must(t, &w, 3, 4)
	wantRun(t, &w, 3)
	wantRun(t, &w, 1, 3)
}

// P10.2: Tick fires those that are due, by numbers, and none before.
func TestTick(t *testing.T) {
	var w Wheel
	for _, id := range []int{9, 200, 0, 31, 5} {
		must(t, &w, id, 2)
	}
	must(t, &w, 1, 1)
	must(t, &w, 2, 3)
	wantFired(t, "1", w.Tick(), 1)
	wantFired(t, "2", w.Tick(), 0, 5, 9, 31, 200)
	wantWheel(t, "2", &w, 2, timer{2, 3})
	wantFired(t, "3", w.Tick(), 2)
	for now := 4; now < 10; now++ {
		wantFired(t, "none", w.Tick())
		wantWheel(t, "none", &w, now)
	}
}

// P10.2: Run tells all that fire by the times, then by the numbers.
func TestRun(t *testing.T) {
	var w Wheel
	must(t, &w, 3, 5)
	must(t, &w, 1, 5)
	must(t, &w, 2, 4)
	must(t, &w, 0, 6)
	c := w.Copy()
	wantRun(t, &w, 0)
	wantWheel(t, "none", &w, 0, timer{3, 5}, timer{1, 5}, timer{2, 4}, timer{0, 6})
	wantRun(t, &w, 5, 2, 1, 3)
	wantWheel(t, "five", &w, 5, timer{0, 6})
	wantRun(t, &w, 0)
	wantRun(t, &w, 1, 0)
	wantRun(t, c, 3)
	wantWheel(t, "three", c, 3, timer{3, 5}, timer{1, 5}, timer{2, 4}, timer{0, 6})
	must(t, c, 200, api.MaxTick)
	wantRun(t, c, api.MaxTick-1, 2, 1, 3, 0)
	wantRun(t, c, 1, 200)
	wantWheel(t, "the most", c, 1<<40+3)
}

// P10.2: Run of too few and too many, which change nothing.
func TestRunRefuses(t *testing.T) {
	var w Wheel
	must(t, &w, 3, 1)
	for _, n := range []int{-1, -2, api.MaxTick + 1, 1 << 61, 1 << 62, math.MinInt, math.MaxInt} {
		if l, e := w.Run(n); e != api.ErrArg || l != nil {
			t.Errorf("Run(%d): %v, error %d", n, l, e)
		}
		wantWheel(t, "refused", &w, 0, timer{3, 1})
	}
	wantRun(t, &w, 1, 3)
}

// P10.2: at the time 2^61 a wheel stays there; those that are due at it fire.
func TestEnd(t *testing.T) {
	w := atEnd(t, 2)
	must(t, w, 3, 2)
	must(t, w, 9, 1)
	must(t, w, 1, 2)
	c, d := w.Copy(), w.Copy()
	wantFired(t, "last but one", w.Tick(), 9)
	wantFired(t, "last", w.Tick(), 1, 3)
	wantRun(t, c, api.MaxTick, 9, 1, 3)
	wantRun(t, d, 3, 9, 1, 3)
	for _, x := range []*Wheel{w, c, d} {
		wantWheel(t, "end", x, 1<<61)
		wantFired(t, "behind the end", x.Tick())
		wantRun(t, x, 0)
		wantRun(t, x, 1)
		wantRun(t, x, api.MaxTick)
		if e := x.Set(1, 1); e != api.ErrOver {
			t.Errorf("Set at the end: error %d", e)
		}
		if l, e := x.Run(-1); e != api.ErrArg || l != nil {
			t.Errorf("Run(-1) at the end: %v, error %d", l, e)
		}
		wantWheel(t, "still the end", x, 1<<61)
	}
}

// P10.2: what isn't there, wrong numbers too, has no time.
func TestDueNone(t *testing.T) {
	var w Wheel
	for range 2 {
		for _, id := range append(noIDs(), 0, 1, 254, 255) {
			wantDue(t, "none", &w, id, 0, false)
		}
		must(t, &w, 3, 1)
	}
	wantDue(t, "there", &w, 3, 1, true)
}

// P10.2: Next is the least time, whatever becomes of the others.
func TestNext(t *testing.T) {
	var w Wheel
	for _, y := range []struct{ id, in, want int }{{1, 9, 9}, {2, 12, 9}, {0, 4, 4}, {3, 4, 4}, {3, 20, 4}, {0, 11, 9}} {
		must(t, &w, y.id, y.in)
		if n, e := w.Next(); e != api.OK || n != y.want {
			t.Errorf("behind Set(%d, %d): %d, error %d; want %d", y.id, y.in, n, e, y.want)
		}
	}
	for _, y := range [][2]int{{1, 11}, {0, 12}, {2, 20}} {
		w.Cancel(y[0])
		if n, e := w.Next(); e != api.OK || n != y[1] {
			t.Errorf("behind Cancel(%d): %d, error %d; want %d", y[0], n, e, y[1])
		}
	}
	w.Run(20)
	if n, e := w.Next(); e != api.ErrNone || n != 0 {
		t.Errorf("of none: %d, error %d", n, e)
	}
}

// P10.3: a copy has the same, and neither changes the other one.
func TestCopy(t *testing.T) {
	var w Wheel
	must(t, &w, 3, 5)
	must(t, &w, 4, 8)
	w.Tick()
	c := w.Copy()
	wantWheel(t, "copy", c, 1, timer{3, 5}, timer{4, 8})
	must(t, c, 3, 1)
	must(t, c, 9, 1)
	c.Cancel(4)
	wantWheel(t, "copy, changed", c, 1, timer{3, 2}, timer{9, 2})
	wantWheel(t, "the first one", &w, 1, timer{3, 5}, timer{4, 8})
	must(t, &w, 3, 10)
	must(t, &w, 200, 1)
	wantRun(t, &w, 1, 200)
	wantWheel(t, "the first one, changed", &w, 2, timer{4, 8}, timer{3, 11})
	wantWheel(t, "copy", c, 1, timer{3, 2}, timer{9, 2})
	wantFired(t, "copy", c.Tick(), 3, 9)
}

// P10.3: copies of the zero Wheel may be used, too.
func TestCopyOfZero(t *testing.T) {
	var w Wheel
	c, d := w.Copy(), w.Copy()
	wantWheel(t, "copy of zero", c, 0)
	must(t, c, 1, 1)
	must(t, &w, 2, 2)
	wantWheel(t, "copy of zero", c, 0, timer{1, 1})
	wantWheel(t, "zero", &w, 0, timer{2, 2})
	wantWheel(t, "the other copy", d, 0)
}

// P10.3: a nil Wheel, whatever it is asked.
func TestNil(t *testing.T) {
	var w *Wheel
	for _, n := range []int{1, 0, 5, 255, 256, -1, api.MaxTick, api.MaxTick + 1, math.MinInt, math.MaxInt} {
		if e := w.Set(n, 1); e != api.ErrState {
			t.Errorf("Set(%d, 1): error %d", n, e)
		}
		if e := w.Set(1, n); e != api.ErrState {
			t.Errorf("Set(1, %d): error %d", n, e)
		}
		if c := w.Cancel(n, 1); c != 0 {
			t.Errorf("Cancel(%d, 1): %d", n, c)
		}
		if l, e := w.Run(n); l != nil || e != api.ErrState {
			t.Errorf("Run(%d): %v, error %d", n, l, e)
		}
		if d, e := w.Due(n); d != 0 || e != api.ErrState {
			t.Errorf("Due(%d): %d, error %d", n, d, e)
		}
	}
	if n, e := w.Next(); n != 0 || e != api.ErrState {
		t.Errorf("Next: %d, error %d", n, e)
	}
	if w.Cancel() != 0 || w.Now() != 0 || w.Len() != 0 || len(w.Tick()) != 0 || w.Copy() != nil {
		t.Error("a nil Wheel tells something")
	}
}

// P10.2, P10.3: what is told is new memory.
func TestNewMemory(t *testing.T) {
	var w Wheel
	must(t, &w, 3, 1)
	must(t, &w, 4, 1)
	must(t, &w, 5, 2)
	first := w.Tick()
	again := w.Tick()
	for i := range first[:cap(first)] {
		first[:cap(first)][i] = 77
	}
	wantFired(t, "what was told", again, 5)
	wantWheel(t, "behind it", &w, 2)
}

// model is a wheel as the chapter's words have it: each tick is made alone.
type model struct {
	now int
	l   []timer
}

func (m *model) cancel(id int) int {
	before := len(m.l)
	m.l = slices.DeleteFunc(m.l, func(x timer) bool { return x.id == id })
	return before - len(m.l)
}

func (m *model) set(id, in int) {
	m.cancel(id)
	m.l = append(m.l, timer{id, m.now + in})
}

func (m *model) run(n int) []int {
	var fired []int
	for range n {
		m.now++
		for id := range 256 {
			if slices.Contains(m.l, timer{id, m.now}) {
				m.cancel(id)
				fired = append(fired, id)
			}
		}
	}
	return fired
}

// P10.1 to P10.3, P2: any calls in any order, held against the model; the same
// calls by a second wheel have the same answers.
func TestWalks(t *testing.T) {
	for seed := range 200 {
		state := uint32(seed)*2654435761 + 1
		draw := func(below int) int {
			state = state*1664525 + 1013904223
			return int(state>>16) % below
		}
		var w, twin Wheel
		var m model
		for range 60 {
			a, b := draw(12), 1+draw(9)
			switch draw(5) {
			case 0, 1:
				must(t, &w, a, b)
				must(t, &twin, a, b)
				m.set(a, b)
			case 2:
				want := m.cancel(a) + m.cancel(b)
				if got, other := w.Cancel(a, b), twin.Cancel(a, b); got != want || other != want {
					t.Errorf("walk %d: Cancel(%d, %d): %d and %d, want %d", seed, a, b, got, other, want)
				}
			case 3:
				want := m.run(1)
				wantFired(t, "walk", w.Tick(), want...)
				wantFired(t, "twin", twin.Tick(), want...)
			default:
				want := m.run(b)
				wantRun(t, &w, b, want...)
				var ticked []int // ticks one by one are what Run makes
				for range b {
					ticked = append(ticked, twin.Tick()...)
				}
				wantFired(t, "twin", ticked, want...)
			}
			if w.Now() != m.now || w.Len() != len(m.l) {
				t.Fatalf("walk %d: time %d, %d timers; want %d, %d", seed, w.Now(), w.Len(), m.now, len(m.l))
			}
		}
		wantWheel(t, "walk", &w, m.now, m.l...)
		wantWheel(t, "twin", twin.Copy(), m.now, m.l...)
	}
}

// P10.3: each timer fires once, just when it is due.
func TestFiresOnce(t *testing.T) {
	var w Wheel
	due := map[int]int{}
	for id := range 256 {
		due[id] = 1 + (id*37+id/7)%90
		must(t, &w, id, due[id])
	}
	for now := 1; now <= 120; now++ {
		for _, id := range w.Tick() {
			if due[id] != now {
				t.Errorf("%d fires at %d, due at %d", id, now, due[id])
			}
			delete(due, id)
		}
	}
	if len(due) != 0 || w.Len() != 0 {
		t.Errorf("never fired: %v; left: %d", due, w.Len())
	}
}
