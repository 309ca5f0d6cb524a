package judge_test

import (
	"fmt"
	"math"
	"slices"
	"testing"

	"deadbolt/api"
	"deadbolt/judge"
)

const (
	leastInt = math.MinInt
	mostInt  = math.MaxInt
	mostTime = 1 << 62
)

// is is something that happened.
func is(at, now, who, kind, mutex int) api.Happened {
	return api.Happened{At: at, Now: now, Event: api.Event{Who: who, Kind: kind, Mutex: mutex}}
}

// row is events, each a tick and an entry behind the one ahead: one letter for its kind, one digit for who, one for the mutex.
func row(events ...string) []api.Happened {
	var l []api.Happened
	for i, e := range events {
		kind := slices.Index([]byte("GTNVF"), e[0])
		l = append(l, is(i, i, int(e[1]-'0'), kind, int(e[2]-'0')))
	}
	return l
}

// mutexes are numbers of mutexes, and others.
func mutexes() []int {
	return []int{0, 1, 2, 3, -1, 4, 5, 7, 8, -2, -4, 1 << 8, 1 << 32, 1<<32 + 1, -1 << 32, mostTime, mostInt, mostInt - 1, leastInt, leastInt + 1}
}

// anyMutex tells whether there is such a mutex.
func anyMutex(m int) bool { return m >= 0 && m < 4 }

// checkWrong holds what is answered of happenings of which one is wrong: its place, and of all else but ErrArg nothing, whatever the mutex.
func checkWrong(t *testing.T, name string, l []api.Happened, at int) {
	t.Helper()
	if n := judge.Wrong(l); n != at {
		t.Errorf("%s: Wrong = %d, not %d: %v", name, n, at, l)
	}
	if who, e := judge.Held(l); len(who) != 0 || e != api.ErrArg {
		t.Errorf("%s: Held = %v, %d", name, who, e)
	}
	for _, m := range mutexes() {
		if who, e := judge.Order(l, m); len(who) != 0 || e != api.ErrArg {
			t.Errorf("%s: Order of %d = %v, %d", name, m, who, e)
		}
		if n, e := judge.Long(l, m); n != 0 || e != api.ErrArg {
			t.Errorf("%s: Long of %d = %d, %d", name, m, n, e)
		}
	}
}

// checkRight holds that of happenings none is wrong, be it in a first part of them, and that ErrRange alone is answered of a mutex that there is not.
func checkRight(t *testing.T, name string, l []api.Happened) {
	t.Helper()
	for n := range len(l) + 1 {
		if at := judge.Wrong(l[:n]); at != -1 {
			t.Errorf("%s: Wrong = %d: %v", name, at, l[:n])
		}
	}
	if who, e := judge.Held(l); len(who) != 4 || e != api.OK {
		t.Errorf("%s: Held = %v, %d", name, who, e)
	}
	for _, m := range mutexes() {
		why := api.ErrRange
		if anyMutex(m) {
			why = api.OK
		}
		if who, e := judge.Order(l, m); e != why || e != api.OK && len(who) != 0 {
			t.Errorf("%s: Order of %d = %v, %d", name, m, who, e)
		}
		if n, e := judge.Long(l, m); e != why || e != api.OK && n != 0 {
			t.Errorf("%s: Long of %d = %d, %d", name, m, n, e)
		}
	}
}

// tells is what is to be told of happenings: who holds each mutex, who got each, and how long each was held.
type tells struct {
	held  [4]int
	order [4][]int
	long  [4]int
}

// checkTells holds what is told of happenings of which none is wrong.
func checkTells(t *testing.T, l []api.Happened, want tells) {
	t.Helper()
	checkRight(t, fmt.Sprint(l), l)
	if who, e := judge.Held(l); e != api.OK || !slices.Equal(who, want.held[:]) {
		t.Errorf("Held = %v, %d, not %v: %v", who, e, want.held, l)
	}
	for m := range 4 {
		if who, e := judge.Order(l, m); e != api.OK || !slices.Equal(who, want.order[m]) {
			t.Errorf("Order of %d = %v, %d, not %v: %v", m, who, e, want.order[m], l)
		}
		if n, e := judge.Long(l, m); e != api.OK || n != want.long[m] {
			t.Errorf("Long of %d = %d, %d, not %d: %v", m, n, e, want.long[m], l)
		}
	}
}

// TestApi is of P18.1 and P18.2: the limits, the kinds and the errors are those that the document names.
func TestApi(t *testing.T) {
	if got := [2]int{api.MaxGors, api.MaxMutexes}; got != [2]int{8, 4} {
		t.Error(got)
	}
	if got := [5]int{api.EGot, api.ETry, api.ENo, api.EGave, api.EFault}; got != [5]int{0, 1, 2, 3, 4} {
		t.Error(got)
	}
	if got := [3]api.Errno{api.OK, api.ErrArg, api.ErrRange}; got != [3]api.Errno{0, 1, 3} {
		t.Error(got)
	}
}

// TestExample is of P18.1: the example of the chapter.
func TestExample(t *testing.T) {
	l := []api.Happened{is(0, 0, 0, api.EGot, 0), is(0, 0, 1, api.EGot, 0)}
	checkWrong(t, "the example", l, 1)
	checkRight(t, "its first one", l[:1])
}

// TestNothing is of P18.1 and P18.2: where nothing happened nothing is wrong, nobody holds anything, and nobody got it.
func TestNothing(t *testing.T) {
	for _, l := range [][]api.Happened{nil, {}, make([]api.Happened, 0, 5)} {
		checkTells(t, l, tells{held: [4]int{-1, -1, -1, -1}})
	}
}

// TestOneAlone is of P18.1 and P18.2: of one that is alone each number at its ends, at what is beyond them, and far from them; its At and its Now may be any.
func TestOneAlone(t *testing.T) {
	times := []int{0, 1, -1, 19999, 20000, mostTime, mostTime + 1, mostInt, leastInt}
	far := []int{-1, 0, 1, 2, 3, 4, 5, 6, 7, 8, 9, -8, -4, 1 << 8, 1 << 32, 1<<32 + 3, -1 << 32, mostInt, leastInt}
	for i, who := range far {
		for _, kind := range far {
			for _, mutex := range far {
				h := is(times[i%len(times)], times[(i/2)%len(times)], who, kind, mutex)
				right := who >= 0 && who < 8 && anyMutex(mutex) && kind >= 0 && kind < 5 && kind != api.EGave
				if !right {
					checkWrong(t, "alone", []api.Happened{h}, 0)
					continue
				}
				want := tells{held: [4]int{-1, -1, -1, -1}}
				if kind == api.EGot || kind == api.ETry {
					want.held[mutex], want.order[mutex] = who, []int{who}
				}
				checkTells(t, []api.Happened{h}, want)
			}
		}
	}
	for _, at := range times {
		for _, now := range times {
			checkTells(t, []api.Happened{is(at, now, 3, api.ENo, 1)}, tells{held: [4]int{-1, -1, -1, -1}})
		}
	}
}

// TestPlacesAndTimes is of P18.1: At and Now as those of the one ahead, more, or less, if by 1 alone, wherever the two stand, and each beside the other.
func TestPlacesAndTimes(t *testing.T) {
	some := []int{leastInt, leastInt + 1, -mostTime, -2, -1, 0, 1, 2, 19999, 20000, mostTime - 1, mostTime, mostInt - 1, mostInt}
	for _, at := range some {
		for _, next := range some {
			for _, now := range some {
				for _, then := range some {
					l := []api.Happened{is(at, now, 0, api.ENo, 0), is(next, then, 1, api.ENo, 1)}
					if next < at || then < now {
						if n := judge.Wrong(l); n != 1 {
							t.Fatal(l, n)
						}
						continue
					}
					if n := judge.Wrong(l); n != -1 {
						t.Fatal(l, n)
					}
				}
			}
		}
	}
}

// TestOneAhead is of P18.1: At and Now are held against those of the one that is ahead just then, on whatever mutex, and not against an earlier one alone.
func TestOneAhead(t *testing.T) {
	for at := 1; at < 6; at++ {
		for _, less := range []int{1, 2, 5, 100} {
			l := row("G00", "N11", "V00", "T22", "G30", "N43")
			l[at].At = l[at-1].At - less
			checkWrong(t, "At", l, at)
			l = row("G00", "N11", "V00", "T22", "G30", "N43")
			l[at].Now = l[at-1].Now - less
			checkWrong(t, "Now", l, at)
			l[at].At = l[at-1].At - less
			checkWrong(t, "both", l, at)
		}
		l := row("G00", "N11", "V00", "T22", "G30", "N43")
		l[at].At, l[at].Now = l[at-1].At, l[at-1].Now
		checkRight(t, "the same", l)
	}
}

// TestNumbers is of P18.1: Who, Mutex and Kind at their ends, at what is beyond them on both sides, and far from them, the first one, the last one, or in between.
func TestNumbers(t *testing.T) {
	for at := range 4 {
		for name, x := range map[string]struct {
			of   func(e *api.Event) *int
			most int
		}{
			"Who":   {func(e *api.Event) *int { return &e.Who }, 7},
			"Mutex": {func(e *api.Event) *int { return &e.Mutex }, 3},
			"Kind":  {func(e *api.Event) *int { return &e.Kind }, 4},
		} {
			for _, n := range []int{-1, x.most + 1, -2, -x.most, x.most + 2, 1 << 32, 1<<32 + 2, -1 << 32, mostInt, leastInt} {
				l := row("N00", "N11", "N22", "N33")
				*x.of(&l[at].Event) = n
				checkWrong(t, name, l, at)
			}
			for n := range x.most + 1 {
				l := row("N00", "N11", "N22", "N33")
				*x.of(&l[at].Event) = n
				switch {
				case name == "Kind" && n == api.EGave:
					checkWrong(t, name, l, at)
				case name == "Kind" && n == api.EFault && at < 3:
					checkWrong(t, name, l, at+1)
				default:
					checkRight(t, name, l)
				}
			}
		}
	}
}

// TestWhoHolds is of P18.1: a mutex that is got, tried, given back or found free by a fault, while another one holds it, the same one, or nobody, for each two of them and each mutex.
func TestWhoHolds(t *testing.T) {
	for mutex := range 4 {
		for one := range 8 {
			for two := range 8 {
				for _, kind := range []int{api.EGot, api.ETry, api.EFault} {
					for _, first := range []int{api.EGot, api.ETry} {
						l := []api.Happened{is(0, 0, one, first, mutex), is(1, 1, two, kind, mutex)}
						checkWrong(t, "held", l, 1)
						l = slices.Insert(l, 1, is(1, 1, two, api.EGave, mutex))
						checkRight(t, "given back", l)
					}
				}
				checkRight(t, "held, and tried in vain", []api.Happened{is(0, 0, one, api.EGot, mutex), is(0, 0, two, api.ENo, mutex), is(0, 0, one, api.EGave, mutex)})
				l := []api.Happened{is(0, 0, one, api.ETry, mutex), is(1, 1, two, api.EGave, mutex), is(1, 1, one, api.EGave, mutex)}
				checkWrong(t, "given back twice", l, 2)
				checkRight(t, "given back once", l[:2])
			}
		}
	}
}

// TestOtherMutexes is of P18.1: what is held, free or at fault is asked of its own mutex alone.
func TestOtherMutexes(t *testing.T) {
	for one := range 4 {
		for two := range 4 {
			if one == two {
				continue
			}
			got := is(0, 0, 5, api.EGot, one)
			for _, kind := range []int{api.EGot, api.ETry, api.ENo, api.EFault} {
				checkRight(t, "another one is held", []api.Happened{got, is(0, 0, 5, kind, two)})
			}
			checkWrong(t, "another one is held", []api.Happened{got, is(0, 0, 5, api.EGave, two)}, 1)
			l := []api.Happened{got, is(0, 0, 2, api.ETry, two), is(0, 0, 1, api.EGave, one)}
			checkRight(t, "one is given back", l)
			for _, kind := range []int{api.EGot, api.ETry, api.EFault} {
				checkWrong(t, "the other is held still", append(l[:3:3], is(0, 0, 4, kind, two)), 3)
				checkRight(t, "the one is free", append(l[:3:3], is(0, 0, 4, kind, one)))
			}
		}
	}
}

// TestBehindFault is of P18.1: a fault of a free mutex is not wrong; anything behind it is, on the same mutex and on another, just behind it or further on.
func TestBehindFault(t *testing.T) {
	for mutex := range 4 {
		for _, ahead := range [][]api.Happened{nil, row("N00"), row("G00", "V10"), row("G00", "V10", "G01", "T12", "G23", "V33", "V42", "V51")} {
			n := len(ahead)
			l := append(ahead[:n:n], is(9, 9, 3, api.EFault, mutex))
			checkRight(t, "a fault", l)
			for other := range 4 {
				for kind := range 5 {
					more := append(l[:n+1:n+1], is(9, 9, 2, kind, other))
					checkWrong(t, "behind a fault", more, n+1)
					checkWrong(t, "behind two", append(more, is(9, 9, 2, api.ENo, other)), n+1)
				}
			}
		}
	}
	checkWrong(t, "a fault of what is held", row("G02", "F12"), 1)
	checkRight(t, "a fault while another one is held", row("G02", "F13"))
	checkWrong(t, "what was held is given back behind a fault", row("G02", "F13", "V02"), 2)
}

// reasons are the ways in which the last one of some is wrong, ahead of which mutex 0 is held and mutex 1 is free.
func reasons() map[string]func(h *api.Happened) {
	return map[string]func(h *api.Happened){
		"At":          func(h *api.Happened) { h.At = 3 },
		"Now":         func(h *api.Happened) { h.Now = 3 },
		"Who below":   func(h *api.Happened) { h.Event.Who = -1 },
		"Who above":   func(h *api.Happened) { h.Event.Who = 8 },
		"Mutex below": func(h *api.Happened) { h.Event.Mutex = -1 },
		"Mutex above": func(h *api.Happened) { h.Event.Mutex = 4 },
		"Kind below":  func(h *api.Happened) { h.Event.Kind = -1 },
		"Kind above":  func(h *api.Happened) { h.Event.Kind = 5 },
		"got":         func(h *api.Happened) { h.Event.Kind, h.Event.Mutex = api.EGot, 0 },
		"tried":       func(h *api.Happened) { h.Event.Kind, h.Event.Mutex = api.ETry, 0 },
		"given back":  func(h *api.Happened) { h.Event.Kind, h.Event.Mutex = api.EGave, 1 },
		"a fault":     func(h *api.Happened) { h.Event.Kind, h.Event.Mutex = api.EFault, 0 },
	}
}

// TestReasons is of P18.1: each way in which one is wrong, alone and beside each other one, of the same one and of the one behind it; the first one that is wrong is told, whatever is behind it.
func TestReasons(t *testing.T) {
	ahead := []api.Happened{is(1, 1, 0, api.EGot, 0), is(2, 2, 1, api.ETry, 1), is(4, 4, 0, api.EGave, 1)}
	for name, change := range reasons() {
		h := is(4, 4, 6, api.ENo, 2)
		checkRight(t, "ahead of "+name, append(ahead[:3:3], h))
		change(&h)
		l := append(ahead[:3:3], h)
		checkWrong(t, name, l, 3)
		checkRight(t, "but for "+name, l[:3])
		for _, more := range [][]api.Happened{{is(9, 9, 0, api.ENo, 3)}, {is(9, 9, 0, api.EFault, 3), is(9, 9, 0, api.ENo, 3)}, slices.Repeat([]api.Happened{h}, 40), {{}, {}}} {
			checkWrong(t, name+", and more", append(l[:4:4], more...), 3)
		}
		for other, another := range reasons() {
			both := h
			another(&both)
			checkWrong(t, name+" and "+other, append(ahead[:3:3], both), 3)
			next := is(5, 5, 6, api.ENo, 2)
			another(&next)
			checkWrong(t, name+", then "+other, append(l[:4:4], next), 3)
		}
		behind := append(ahead[:3:3], is(4, 4, 1, api.EFault, 3))
		checkWrong(t, name+" behind a fault", append(behind, h), 4)
	}
}

// TestWrongPlaces is of P18.1: of many the first one, the last one, and each in between.
func TestWrongPlaces(t *testing.T) {
	var l []api.Happened
	for i := range 30 {
		l = append(l, is(3*i, 5*i, i%8, api.EGot, i%4), is(3*i+1, 5*i, i%8, api.ENo, i%4), is(3*i+2, 5*i+3, i%7, api.EGave, i%4))
	}
	checkRight(t, "many", l)
	for at := range l {
		more := slices.Clone(l)
		more[at].Event.Who = 8
		checkWrong(t, "one of many", more, at)
		more[len(more)-1].Event.Who = 9
		checkWrong(t, "two of many", more, at)
		more = slices.Insert(slices.Clone(l), at, is(3*(at/3)+at%3, 5*(at/3)+at%3/2*3, 7, api.EGave, (at/3+1)%4))
		checkWrong(t, "one more", more, at)
	}
}

// TestRangeIsLast is of P18.1: of a wrong one and no such mutex ErrArg is told, of the latter alone ErrRange.
func TestRangeIsLast(t *testing.T) {
	for _, m := range []int{-1, 4, mostInt, leastInt} {
		for _, x := range []struct {
			l   []api.Happened
			why api.Errno
		}{{nil, api.ErrRange}, {row("G00"), api.ErrRange}, {row("V00"), api.ErrArg}, {row("G00", "G00"), api.ErrArg}} {
			if who, e := judge.Order(x.l, m); len(who) != 0 || e != x.why {
				t.Error(x.l, m, who, e)
			}
			if n, e := judge.Long(x.l, m); n != 0 || e != x.why {
				t.Error(x.l, m, n, e)
			}
		}
	}
}

// TestTells is of P18.2: a mutex that is held at the end, and one that is free; one that nobody got; who tried in vain got nothing; who gives it back need not be who held it.
func TestTells(t *testing.T) {
	for _, x := range []struct {
		l    []api.Happened
		want tells
	}{
		{row("G70"), tells{held: [4]int{7, -1, -1, -1}, order: [4][]int{{7}}}},
		{row("T73"), tells{held: [4]int{-1, -1, -1, 7}, order: [4][]int{3: {7}}}},
		{row("N73"), tells{held: [4]int{-1, -1, -1, -1}}},
		{row("F73"), tells{held: [4]int{-1, -1, -1, -1}}},
		{row("G01", "V01"), tells{held: [4]int{-1, -1, -1, -1}, order: [4][]int{1: {0}}, long: [4]int{1: 1}}},
		{row("G01", "V61"), tells{held: [4]int{-1, -1, -1, -1}, order: [4][]int{1: {0}}, long: [4]int{1: 1}}},
		{row("G01", "N21", "V01", "T21"), tells{held: [4]int{-1, 2, -1, -1}, order: [4][]int{1: {0, 2}}, long: [4]int{1: 2}}},
		{row("G01", "N21", "V01", "T21", "N10", "N11"), tells{held: [4]int{-1, 2, -1, -1}, order: [4][]int{1: {0, 2}}, long: [4]int{1: 2}}},
		{row("G01", "N21", "V01", "T21", "N10", "N11", "F50"), tells{held: [4]int{-1, 2, -1, -1}, order: [4][]int{1: {0, 2}}, long: [4]int{1: 3}}},
		{row("G00", "V00", "G00", "V00", "T00"), tells{held: [4]int{0, -1, -1, -1}, order: [4][]int{{0, 0, 0}}, long: [4]int{1}}},
		{row("G30", "T31", "G32", "T33"), tells{held: [4]int{3, 3, 3, 3}, order: [4][]int{{3}, {3}, {3}, {3}}, long: [4]int{3, 2, 1, 0}}},
		{row("G40", "T51", "G62", "V70", "T73", "V02", "G10"), tells{held: [4]int{1, 5, -1, 7}, order: [4][]int{{4, 1}, {5}, {6}, {7}}, long: [4]int{3, 5, 3, 2}}},
	} {
		checkTells(t, x.l, x.want)
	}
}

// TestLongest is of P18.2: a mutex that was held several times, the longest of them first, in between, or last, be that one given back or held still; others that are held longer do not count.
func TestLongest(t *testing.T) {
	for _, long := range [][]int{{9, 2, 3}, {2, 9, 3}, {2, 3, 9}, {9, 9, 9}, {0, 0, 0}, {0, 1, 0}, {1, 0, 0}, {0, 0, 1}, {5}, {0}, {8, 9}, {9, 8}} {
		for mutex := range 4 {
			other := (mutex + 1) % 4
			l := []api.Happened{is(0, -50, 7, api.ETry, other)}
			want := tells{held: [4]int{-1, -1, -1, -1}}
			now := 100
			for i, n := range long {
				l = append(l, is(i, now, i, i%2, mutex), is(i, now+n, i, api.EGave, mutex))
				want.order[mutex] = append(want.order[mutex], i)
				now += n + 20
			}
			want.held[other], want.order[other] = 7, []int{7}
			want.long[mutex], want.long[other] = slices.Max(long), now-20+50
			checkTells(t, l, want)
			last := len(l) - 1
			l[last].Event.Kind = api.ENo
			want.held[mutex] = l[last].Event.Who
			checkTells(t, l, want)
			l[last].Event.Mutex = other
			checkTells(t, l, want)
		}
	}
}

// TestHeldForNoTime is of P18.2: one that is given back in the tick in which it was got was held for no time, at whatever time that is.
func TestHeldForNoTime(t *testing.T) {
	for _, now := range []int{0, 1, 1000000, mostTime, -1, -mostTime, leastInt, mostInt} {
		l := []api.Happened{is(0, now, 2, api.EGot, 3), is(4, now, 2, api.EGave, 3), is(5, now, 4, api.ETry, 3), is(5, now, 4, api.EGave, 3), is(5, now, 6, api.EGot, 3)}
		want := tells{held: [4]int{-1, -1, -1, 6}, order: [4][]int{3: {2, 4, 6}}}
		checkTells(t, l, want)
		if now < mostInt {
			want.long[3] = 1
			checkTells(t, append(l, is(5, now+1, 6, api.ENo, 0)), want)
		}
	}
}

// TestTicksAreNotEntries is of P18.2: how long a mutex was held is told by Now alone, not by At.
func TestTicksAreNotEntries(t *testing.T) {
	for _, at := range []int{0, 1, 500, mostInt} {
		l := []api.Happened{is(0, 7, 1, api.EGot, 0), is(at, 20, 1, api.EGave, 0), is(at, 20, 1, api.EGot, 1)}
		checkTells(t, l, tells{held: [4]int{-1, 1, -1, -1}, order: [4][]int{{1}, {1}}, long: [4]int{13}})
	}
}

// TestLongTimes is of P18.2 and P1: all of time, and Nows that are no time: as far as a number of Go's tells it, and the greatest of these, where it was longer.
func TestLongTimes(t *testing.T) {
	for _, x := range []struct{ from, to, want int }{
		{0, mostTime, mostTime}, {1, mostTime, mostTime - 1}, {0, mostInt, mostInt}, {-1, mostInt - 1, mostInt}, {leastInt, -1, mostInt}, {leastInt, -2, mostInt - 1}, {leastInt, leastInt, 0}, {-mostTime, mostTime - 1, mostInt},
		{-1, mostInt, mostInt}, {leastInt, 0, mostInt}, {leastInt, mostInt, mostInt}, {-mostTime, mostTime, mostInt}, {leastInt, mostTime, mostInt},
	} {
		got := is(0, x.from, 3, api.EGot, 2)
		want := tells{held: [4]int{-1, -1, -1, -1}, order: [4][]int{2: {3}}, long: [4]int{2: x.want}}
		checkTells(t, []api.Happened{got, is(0, x.to, 3, api.EGave, 2)}, want)
		want.held[2] = 3
		checkTells(t, []api.Happened{got, is(0, x.to, 3, api.ENo, 2)}, want)
	}
}
