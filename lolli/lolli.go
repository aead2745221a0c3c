// Package lolli is layer 1: lollipop sequence counters.
package lolli

import "rivulet/api"

// Where a counter begins, and the window.
const (
	Init   = 240
	Window = 16
)

// What two counters are to each other: Older and After speak of the first one.
const (
	Same = iota
	Older
	After
	Apart
)

const (
	ring  = 128 // the counters below this one go round
	limit = 256 // behind the last one of the stick
)

// Valid tells whether all are counters.
func Valid(l ...int) bool {
	for _, a := range l {
		if a < 0 || a >= limit {
			return false
		}
	}
	return true
}

// Next tells the next one of a counter.
func Next(a int) (int, api.Errno) {
	return Steps(a, 1)
}

// Steps tells the counter that is n steps on.
func Steps(a, n int) (int, api.Errno) {
	if !Valid(a) || n < 0 {
		return 0, api.ErrArg
	}
	if !onStick(a) {
		// n is cut first, as the sum may not fit beside a great n.
		return (a + n%ring) % ring, api.OK
	}
	left := limit - a
	if n < left {
		return a + n, api.OK
	}
	return (n - left) % ring, api.OK
}

// Compare tells what two counters are to each other.
func Compare(a, b int) (int, api.Errno) {
	if !Valid(a, b) {
		return 0, api.ErrArg
	}
	return relation(a, b), api.OK
}

// Newer tells whether both are counters, and a is newer than b.
func Newer(a, b int) bool {
	return Valid(a, b) && relation(a, b) == After
}

// Newest tells the first one that is newer than, or the same as, each other one.
func Newest(l ...int) (int, api.Errno) {
	if len(l) == 0 || !Valid(l...) {
		return 0, api.ErrArg
	}
	different := distinct(l)
candidates:
	for _, a := range different {
		for _, b := range different {
			if a != b && !Newer(a, b) {
				continue candidates
			}
		}
		return a, api.OK
	}
	return 0, api.ErrNone
}

func onStick(a int) bool { return a >= ring }

// relation is what two are to each other; both must be counters.
func relation(a, b int) int {
	fromA, fromB := stepsFrom(a), stepsFrom(b)
	switch {
	case a == b:
		return Same
	case inWindow(fromA(b)):
		return Older
	case inWindow(fromB(a)):
		return After
	case onStick(a) == onStick(b):
		return Apart
	case onStick(a):
		return After
	default:
		return Older
	}
}

// stepsFrom answers the distances that lead on from one counter. A distance
// below 1 says that no step leads there: the stick is walked along once only.
func stepsFrom(from int) func(to int) int {
	if onStick(from) {
		return func(to int) int {
			if onStick(to) {
				return to - from
			}
			return limit - from + to
		}
	}
	return func(to int) int {
		if onStick(to) {
			return -1
		}
		return (to - from + ring) % ring
	}
}

func inWindow(distance int) bool { return distance >= 1 && distance <= Window }

// distinct is each counter once, in the order of the first ones: however many
// are handed in, at most 256 are then held against each other.
func distinct(l []int) []int {
	var seen [limit]bool
	var out []int
	for _, a := range l {
		if !seen[a] {
			seen[a] = true
			out = append(out, a)
		}
	}
	return out
}
