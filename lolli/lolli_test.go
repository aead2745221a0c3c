package lolli

import (
	"math"
	"slices"
	"testing"

	"rivulet/api"
)

// What is no counter, from beside the edges to the ends of the numbers.
func noCounters() []int {
	return []int{-1, 256, -128, 257, 1000, math.MinInt, math.MaxInt}
}

func wantNumber(t *testing.T, what string, got int, e api.Errno, want int) {
	t.Helper()
	if e != api.OK || got != want {
		t.Errorf("%s: got %d, error %d; want %d", what, got, e, want)
	}
}

func wantError(t *testing.T, what string, got int, e, want api.Errno) {
	t.Helper()
	if e != want || got != 0 {
		t.Errorf("%s: got %d, error %d; want 0, error %d", what, got, e, want)
	}
}

func TestConstants(t *testing.T) {
	got := []int{Init, Window, Same, Older, After, Apart}
	if want := []int{240, 16, 0, 1, 2, 3}; !slices.Equal(got, want) {
		t.Errorf("got %v, want %v", got, want)
	}
}

// P1.1: Valid.
func TestValid(t *testing.T) {
	if !Valid() || !Valid(nil...) || !Valid([]int{}...) {
		t.Error("none: all of them are counters")
	}
	if !Valid(0) || !Valid(255) || !Valid(0, 127, 128, 240, 255) {
		t.Error("counters were refused")
	}
	for _, bad := range noCounters() {
		for _, l := range [][]int{{bad}, {bad, 1, 2}, {1, bad, 2}, {1, 2, bad}} {
			if Valid(l...) {
				t.Errorf("Valid(%v) holds", l)
			}
		}
	}
}

// nextByWords is the next one as the chapter words it.
func nextByWords(a int) int {
	if a == 255 || a == 127 {
		return 0
	}
	return a + 1
}

// P1.1: Next.
func TestNext(t *testing.T) {
	for _, y := range [][2]int{{127, 0}, {255, 0}, {0, 1}, {240, 241}, {126, 127}, {128, 129}, {254, 255}} {
		got, e := Next(y[0])
		wantNumber(t, "Next", got, e, y[1])
	}
	for a := range 256 {
		got, e := Next(a)
		wantNumber(t, "Next", got, e, nextByWords(a))
	}
	for _, bad := range noCounters() {
		got, e := Next(bad)
		wantError(t, "Next", got, e, api.ErrArg)
	}
}

// P1.1: Steps is Next so many times.
func TestStepsWalks(t *testing.T) {
	for a := range 256 {
		want := a
		for n := range 600 {
			got, e := Steps(a, n)
			wantNumber(t, "Steps", got, e, want)
			want = nextByWords(want)
		}
	}
}

// P1.1: Steps at the numbers that are named, and at those that barely fit.
func TestStepsEdges(t *testing.T) {
	for _, y := range [][3]int{
		{240, 0, 240}, {255, 0, 255}, {127, 0, 127}, {0, 0, 0},
		{240, 1, 241}, {255, 1, 0}, {127, 1, 0},
		{240, 15, 255}, {240, 16, 0}, {240, 17, 1}, {120, 16, 8},
		{255, 128, 127}, {255, 129, 0}, {128, 127, 255}, {128, 128, 0}, {128, 256, 0},
		{127, 128, 127}, {0, 128, 0}, {0, 127, 127}, {100, 128*1000 + 30, 2},
		// The greatest number is 127 modulo 128.
		{0, math.MaxInt, 127}, {5, math.MaxInt, 4}, {127, math.MaxInt, 126},
		{128, math.MaxInt, 127}, {240, math.MaxInt, 111}, {255, math.MaxInt, 126},
	} {
		got, e := Steps(y[0], y[1])
		wantNumber(t, "Steps", got, e, y[2])
	}
}

// P1.1: Steps with wrong inputs.
func TestStepsRefuses(t *testing.T) {
	for _, n := range []int{-1, -16, -128, math.MinInt} {
		for _, a := range []int{0, 127, 128, 240, 255} {
			got, e := Steps(a, n)
			wantError(t, "Steps", got, e, api.ErrArg)
		}
	}
	for _, bad := range noCounters() {
		for _, n := range []int{-1, 0, 1, 16, math.MaxInt} {
			got, e := Steps(bad, n)
			wantError(t, "Steps", got, e, api.ErrArg)
		}
	}
}

// compareByWords is the comparison as the chapter words it, case by case.
func compareByWords(a, b int) int {
	switch {
	case a == b:
		return Same
	case a >= 128 && b < 128:
		if 256-a+b <= 16 {
			return Older
		}
		return After
	case a < 128 && b >= 128:
		if 256-b+a <= 16 {
			return After
		}
		return Older
	case a >= 128:
		if b > a && b-a <= 16 {
			return Older
		}
		if a > b && a-b <= 16 {
			return After
		}
		return Apart
	}
	if d := (b - a + 128) % 128; 1 <= d && d <= 16 {
		return Older
	}
	if d := (a - b + 128) % 128; 1 <= d && d <= 16 {
		return After
	}
	return Apart
}

// P1.2: Compare, and Newer with it, for every two.
func TestCompareEveryTwo(t *testing.T) {
	for a := range 256 {
		for b := range 256 {
			want := compareByWords(a, b)
			got, e := Compare(a, b)
			if e != api.OK || got != want {
				t.Errorf("Compare(%d, %d): got %d, error %d; want %d", a, b, got, e, want)
			}
			if Newer(a, b) != (want == After) {
				t.Errorf("Newer(%d, %d): got %t", a, b, Newer(a, b))
			}
		}
	}
}

// P1.2: Compare at the edges that are named, each way round.
func TestCompareEdges(t *testing.T) {
	turned := map[int]int{Same: Same, Older: After, After: Older, Apart: Apart}
	for _, y := range [][3]int{
		{0, 0, Same}, {127, 127, Same}, {128, 128, Same}, {255, 255, Same},
		// One on the stick and one on the ring: 16 steps, and 17.
		{240, 0, Older}, {239, 0, After}, {250, 10, Older}, {250, 11, After},
		{255, 15, Older}, {255, 16, After}, {128, 0, After}, {128, 127, After}, {255, 127, After},
		{240, 5, After}, {250, 5, Older},
		// Both on the stick: a difference of 16, and of 17.
		{200, 201, Older}, {200, 216, Older}, {200, 217, Apart}, {239, 255, Older}, {238, 255, Apart},
		{128, 144, Older}, {128, 145, Apart}, {128, 255, Apart},
		// Both on the ring: 16 and 17 modulo 128.
		{10, 26, Older}, {10, 27, Apart}, {120, 8, Older}, {120, 9, Apart},
		{127, 0, Older}, {127, 2, Older}, {127, 15, Older}, {127, 16, Apart}, {0, 64, Apart}, {10, 60, Apart},
	} {
		got, e := Compare(y[0], y[1])
		wantNumber(t, "Compare", got, e, y[2])
		got, e = Compare(y[1], y[0])
		wantNumber(t, "Compare turned", got, e, turned[y[2]])
	}
}

// P1.2: Compare and Newer with what is no counter.
func TestCompareRefuses(t *testing.T) {
	for _, bad := range noCounters() {
		for _, other := range append(noCounters(), 0, 127, 128, 240, 255) {
			got, e := Compare(bad, other)
			wantError(t, "Compare", got, e, api.ErrArg)
			got, e = Compare(other, bad)
			wantError(t, "Compare", got, e, api.ErrArg)
			if Newer(bad, other) || Newer(other, bad) {
				t.Errorf("Newer of %d and %d holds", bad, other)
			}
		}
	}
}

// P1.2: Newest of some.
func TestNewest(t *testing.T) {
	for _, y := range []struct {
		l    []int
		want int
	}{
		{[]int{0}, 0}, {[]int{255}, 255}, {[]int{7, 7, 7}, 7},
		{[]int{3, 9, 250, 9}, 9}, {[]int{9, 3, 9, 250}, 9}, {[]int{250, 3, 9}, 9},
		{[]int{127, 0}, 0}, {[]int{0, 127}, 0}, {[]int{240, 255}, 255},
		{[]int{240, 241, 242, 241}, 242}, {[]int{128, 100}, 128}, {[]int{10, 26}, 26},
		// 5 and 100 are apart, and yet 200 is newer than both.
		{[]int{5, 200, 100}, 200}, {[]int{5, 100, 200}, 200},
	} {
		got, e := Newest(y.l...)
		wantNumber(t, "Newest", got, e, y.want)
	}
}

// P1.2: Newest with wrong inputs, and where no one is newest.
func TestNewestRefuses(t *testing.T) {
	got, e := Newest()
	wantError(t, "Newest of none", got, e, api.ErrArg)
	got, e = Newest([]int{}...)
	wantError(t, "Newest of an empty list", got, e, api.ErrArg)
	for _, bad := range noCounters() {
		// 3 and 60 are apart: what is no counter is told ahead of that.
		for _, l := range [][]int{{bad}, {bad, 1}, {1, bad}, {1, 2, bad}, {3, 60, bad}} {
			got, e := Newest(l...)
			wantError(t, "Newest", got, e, api.ErrArg)
		}
	}
	for _, l := range [][]int{
		{3, 60}, {60, 3}, {10, 27}, {200, 217}, {3, 3, 60, 60}, {3, 9, 60},
		// Each of these is older than another one, all the way round.
		{0, 16, 32, 48, 64, 80, 96, 112},
		// 240 is newer than 5, 5 than 250, 250 than 240.
		{250, 5, 240},
	} {
		got, e := Newest(l...)
		wantError(t, "Newest", got, e, api.ErrNone)
	}
}

// newestByWords holds every one against every other one.
func newestByWords(l []int) (int, api.Errno) {
	for _, a := range l {
		best := true
		for _, b := range l {
			c := compareByWords(a, b)
			best = best && (c == Same || c == After)
		}
		if best {
			return a, api.OK
		}
	}
	return 0, api.ErrNone
}

// P1.2: Newest of every two, and of three and four by a fixed walk.
func TestNewestByWords(t *testing.T) {
	try := func(l ...int) {
		got, e := Newest(l...)
		if want, wantE := newestByWords(l); got != want || e != wantE {
			t.Errorf("Newest(%v): got %d, error %d; want %d, error %d", l, got, e, want, wantE)
		}
	}
	for a := range 256 {
		for b := range 256 {
			try(a, b)
			try(a, b, (a*7+b*13+5)%256)
			try(a, b, (a+9)%256, (b*3+240)%256)
		}
	}
}

// P1: Newest ends soon at a long list, and a list that is handed in stays as it is.
func TestNewestOfMany(t *testing.T) {
	// All the same but the last one, which is apart from them: holding every
	// one against every other one would go through nearly all of them each time.
	many := make([]int, 1<<20)
	for i := range many {
		many[i] = 3
	}
	many[len(many)-1] = 60
	before := slices.Clone(many)
	got, e := Newest(many...)
	wantError(t, "Newest of many", got, e, api.ErrNone)
	if !Valid(many...) || !slices.Equal(many, before) {
		t.Error("the list was changed")
	}
}

// P1.3: the next one, and each up to 16 steps on, is newer; the seventeenth isn't.
func TestStepsAreNewer(t *testing.T) {
	for a := range 256 {
		if b, e := Next(a); e != api.OK || !Newer(b, a) {
			t.Errorf("the next one of %d, %d, isn't newer", a, b)
		}
		for n := 1; n <= Window; n++ {
			b, e := Steps(a, n)
			if c, f := Compare(a, b); e != api.OK || f != api.OK || c != Older || !Newer(b, a) {
				t.Errorf("%d, %d steps on from %d, isn't newer", b, n, a)
			}
		}
		if b, e := Steps(a, Window+1); e != api.OK || Newer(b, a) {
			t.Errorf("%d, beyond the window of %d, is newer", b, a)
		}
	}
}

// P1.3: no two are each newer than the other.
func TestNoTwoAreEachNewer(t *testing.T) {
	for a := range 256 {
		for b := range 256 {
			if Newer(a, b) && Newer(b, a) {
				t.Errorf("%d and %d are each newer", a, b)
			}
			if Newer(a, b) && a == b {
				t.Errorf("%d is newer than itself", a)
			}
		}
	}
}

// P2: the same calls have the same answers.
func TestSameAnswers(t *testing.T) {
	l := []int{250, 3, 9, 12, 251}
	first, e := Newest(l...)
	for range 100 {
		again, f := Newest(l...)
		if again != first || f != e {
			t.Errorf("got %d, error %d; ahead of it %d, error %d", again, f, first, e)
		}
	}
}
