package clock_test

import (
	"math"
	"math/big"
	"slices"
	"testing"

	"deadbolt/api"
	"deadbolt/clock"
)

const (
	mostTime = 1 << 62
	thresh   = 1000000
	leastInt = math.MinInt
	mostInt  = math.MaxInt
)

// times are both ends, what is around the middle, and what is around so long as somebody may wait; the earlier ones first.
func times() []int {
	return []int{
		0, 1, 2, 3, 7, 999, thresh - 1, thresh, thresh + 1, thresh + 2, 2 * thresh, 2*thresh + 1, 1<<31 - 1, 1 << 31, 1 << 32, 1<<32 + thresh,
		1<<61 - 1, 1 << 61, 1<<61 + 1, mostTime - 2*thresh, mostTime - thresh - 2, mostTime - thresh - 1, mostTime - thresh, mostTime - thresh + 1, mostTime - 2, mostTime - 1, mostTime,
	}
}

// noTimes are the first numbers on either side that are none, and the last.
func noTimes() []int {
	return []int{-1, -2, -thresh, -1 << 31, -1 << 32, -mostTime + 1, -mostTime, -mostTime - 1, leastInt + 1, leastInt, mostTime + 1, mostTime + 2, mostTime + thresh, mostTime + 1<<61, mostInt - 1, mostInt}
}

// sum is of numbers without bounds.
func sum(numbers ...int) *big.Int {
	all := new(big.Int)
	for _, n := range numbers {
		all.Add(all, big.NewInt(int64(n)))
	}
	return all
}

// TestApi is of P4.1: the bounds are those that package api names.
func TestApi(t *testing.T) {
	if api.MaxTime != mostTime || api.Thresh != thresh {
		t.Error(api.MaxTime, api.Thresh)
	}
}

// TestRight is of P4.1: times, both ends among them, and what is none, the first beyond either end among it.
func TestRight(t *testing.T) {
	for _, n := range times() {
		if !clock.Right(n) {
			t.Errorf("Right(%d) is false", n)
		}
	}
	for _, n := range noTimes() {
		if clock.Right(n) {
			t.Errorf("Right(%d) is true", n)
		}
	}
}

// TestTickAtEdges is of P4.1: sums at the last time, and just above it, and those that Go's int does not hold.
func TestTickAtEdges(t *testing.T) {
	for i, x := range []struct {
		now, d, want int
		why          api.Errno
	}{
		{0, 0, 0, api.OK}, {0, 1, 1, api.OK}, {1, 0, 1, api.OK}, {3, 4, 7, api.OK}, {thresh, 1, thresh + 1, api.OK},
		{0, mostTime - 1, mostTime - 1, api.OK}, {0, mostTime, mostTime, api.OK}, {mostTime, 0, mostTime, api.OK}, {mostTime - 1, 0, mostTime - 1, api.OK},
		{1, mostTime - 1, mostTime, api.OK}, {mostTime - 1, 1, mostTime, api.OK}, {1 << 61, 1 << 61, mostTime, api.OK}, {1<<61 - 1, 1<<61 + 1, mostTime, api.OK},
		{1, mostTime, 0, api.ErrOver}, {mostTime, 1, 0, api.ErrOver}, {2, mostTime - 1, 0, api.ErrOver}, {mostTime - 1, 2, 0, api.ErrOver},
		{1 << 61, 1<<61 + 1, 0, api.ErrOver}, {1<<61 + 1, 1 << 61, 0, api.ErrOver}, {mostTime - 1, mostTime, 0, api.ErrOver}, {mostTime - 1, mostTime - 1, 0, api.ErrOver}, {mostTime, mostTime, 0, api.ErrOver},
		{0, -1, 0, api.ErrArg}, {-1, 0, 0, api.ErrArg}, {-1, 1, 0, api.ErrArg}, {1, -1, 0, api.ErrArg}, {mostTime, -1, 0, api.ErrArg}, {0, mostTime + 1, 0, api.ErrArg}, {mostTime + 1, 0, 0, api.ErrArg},
		{mostTime, mostTime + 1, 0, api.ErrArg}, {mostTime + 1, mostTime, 0, api.ErrArg}, {mostTime + 1, -1, 0, api.ErrArg}, {-1, mostTime + 1, 0, api.ErrArg},
		{mostInt, mostInt, 0, api.ErrArg}, {leastInt, leastInt, 0, api.ErrArg}, {mostInt, leastInt, 0, api.ErrArg}, {leastInt, mostInt, 0, api.ErrArg},
	} {
		if n, e := clock.Tick(x.now, x.d); n != x.want || e != x.why {
			t.Errorf("%d: Tick(%d, %d) = %d, %d", i, x.now, x.d, n, e)
		}
	}
}

// TestTick is of P4.1: Tick, held against the sum worked out without bounds.
func TestTick(t *testing.T) {
	for _, now := range times() {
		for _, d := range times() {
			want, why := 0, api.ErrOver
			if s := sum(now, d); s.Cmp(big.NewInt(mostTime)) <= 0 {
				want, why = int(s.Int64()), api.OK
			}
			if n, e := clock.Tick(now, d); n != want || e != why {
				t.Errorf("Tick(%d, %d) = %d, %d, not %d, %d", now, d, n, e, want, why)
			}
		}
	}
}

// TestSinceAndLateAtEdges is of P4.1: now ahead of from, the same, and behind it; so long as somebody may wait, and a nanosecond more.
func TestSinceAndLateAtEdges(t *testing.T) {
	for i, x := range []struct {
		now, from, want int
		late            bool
	}{
		{0, 0, 0, false}, {1, 0, 1, false}, {0, 1, 0, false}, {9, 4, 5, false}, {4, 9, 0, false}, {7, 7, 0, false},
		{thresh - 1, 0, thresh - 1, false}, {thresh, 0, thresh, false}, {thresh + 1, 0, thresh + 1, true}, {thresh + 2, 0, thresh + 2, true},
		{thresh, 1, thresh - 1, false}, {thresh + 1, 1, thresh, false}, {thresh + 2, 1, thresh + 1, true},
		{0, thresh, 0, false}, {0, thresh + 1, 0, false}, {0, thresh + 2, 0, false}, {thresh, thresh, 0, false}, {thresh + 1, thresh + 1, 0, false},
		{mostTime, mostTime, 0, false}, {mostTime, mostTime - 1, 1, false}, {mostTime - 1, mostTime, 0, false},
		{mostTime, mostTime - thresh, thresh, false}, {mostTime, mostTime - thresh - 1, thresh + 1, true}, {mostTime - 1, mostTime - thresh - 1, thresh, false},
		{mostTime - thresh - 1, mostTime, 0, false}, {mostTime, 0, mostTime, true}, {mostTime, 1, mostTime - 1, true}, {mostTime - 1, 0, mostTime - 1, true},
		{0, mostTime, 0, false}, {1, mostTime, 0, false}, {0, mostTime - 1, 0, false},
	} {
		if n, e := clock.Since(x.now, x.from); n != x.want || e != api.OK {
			t.Errorf("%d: Since(%d, %d) = %d, %d", i, x.now, x.from, n, e)
		}
		if is, e := clock.Late(x.now, x.from); is != x.late || e != api.OK {
			t.Errorf("%d: Late(%d, %d) = %v, %d", i, x.now, x.from, is, e)
		}
	}
}

// TestSinceAndLate is of P4.1: all times now, since all times.
func TestSinceAndLate(t *testing.T) {
	for _, now := range times() {
		for _, from := range times() {
			want := 0
			if from < now {
				want = now - from
			}
			if n, e := clock.Since(now, from); n != want || e != api.OK {
				t.Errorf("Since(%d, %d) = %d, %d", now, from, n, e)
			}
			if is, e := clock.Late(now, from); is != (want > thresh) || e != api.OK {
				t.Errorf("Late(%d, %d) = %v, %d", now, from, is, e)
			}
		}
	}
}

// checkNoTimes holds that all calls of two numbers find that one is no time, and tell nothing beside it.
func checkNoTimes(t *testing.T, a, b int) {
	t.Helper()
	if n, e := clock.Tick(a, b); n != 0 || e != api.ErrArg {
		t.Errorf("Tick(%d, %d) = %d, %d", a, b, n, e)
	}
	if n, e := clock.Since(a, b); n != 0 || e != api.ErrArg {
		t.Errorf("Since(%d, %d) = %d, %d", a, b, n, e)
	}
	if is, e := clock.Late(a, b); is || e != api.ErrArg {
		t.Errorf("Late(%d, %d) = %v, %d", a, b, is, e)
	}
}

// TestNoTime is of P4.1 and P1: what is no time, at either place and at both, is told ahead of a sum that is too much.
func TestNoTime(t *testing.T) {
	for _, no := range noTimes() {
		for _, n := range times() {
			checkNoTimes(t, no, n)
			checkNoTimes(t, n, no)
		}
		for _, other := range noTimes() {
			checkNoTimes(t, no, other)
		}
	}
}

// TestSpreadAtEdges is of P4.2: of none, of one, of the same again, and of both ends, wherever the least and the greatest stand.
func TestSpreadAtEdges(t *testing.T) {
	for i, x := range []struct {
		l    []int
		want int
	}{
		{nil, 0}, {[]int{}, 0}, {[]int{0}, 0}, {[]int{1}, 0}, {[]int{5}, 0}, {[]int{mostTime - 1}, 0}, {[]int{mostTime}, 0},
		{[]int{0, 0}, 0}, {[]int{5, 5}, 0}, {[]int{5, 5, 5}, 0}, {[]int{mostTime, mostTime}, 0}, {[]int{mostTime, mostTime, mostTime}, 0},
		{[]int{0, mostTime}, mostTime}, {[]int{mostTime, 0}, mostTime}, {[]int{0, mostTime - 1}, mostTime - 1}, {[]int{mostTime, 1}, mostTime - 1}, {[]int{1, mostTime - 1}, mostTime - 2}, {[]int{mostTime - 1, mostTime}, 1},
		{[]int{0, 5, mostTime}, mostTime}, {[]int{5, mostTime, 0}, mostTime}, {[]int{mostTime, 0, mostTime, 0}, mostTime},
		{[]int{2, 5, 9}, 7}, {[]int{2, 9, 5}, 7}, {[]int{5, 2, 9}, 7}, {[]int{5, 9, 2}, 7}, {[]int{9, 2, 5}, 7}, {[]int{9, 5, 2}, 7},
		{[]int{2, 9, 2, 9, 5}, 7}, {[]int{5, 9, 9, 2, 2, 5}, 7}, {[]int{5, 6}, 1}, {[]int{6, 5}, 1}, {[]int{0, 1}, 1}, {[]int{0, thresh}, thresh}, {[]int{thresh + 1, 0}, thresh + 1},
	} {
		if n, e := clock.Spread(x.l); n != x.want || e != api.OK {
			t.Errorf("%d: Spread(%v) = %d, %d", i, x.l, n, e)
		}
	}
}

// TestSpreadOfMany is of P4.2: there is no bound on how many times there are, nor on where the ends stand among them.
func TestSpreadOfMany(t *testing.T) {
	const many = 1000
	for at := range many {
		l := slices.Repeat([]int{500}, many)
		l[at], l[many-1-at] = 1, mostTime
		if n, e := clock.Spread(l); n != mostTime-1 || e != api.OK {
			t.Errorf("ends at %d and %d: %d, %d", at, many-1-at, n, e)
		}
	}
}

// TestSpreadOfNoTimes is of P4.2 and P1: a number that is no time, alone, at the beginning of a list, within it and at its end.
func TestSpreadOfNoTimes(t *testing.T) {
	for _, no := range noTimes() {
		lists := [][]int{{no}, {no, no}, {no, no, no}, {leastInt, no}, {no, mostInt}, {-1, no, mostTime + 1}}
		for _, l := range [][]int{{0}, {5}, {mostTime}, {0, mostTime}, {mostTime, 0}, {7, 7, 7}, {5, 2, 9, 4}} {
			for at := range len(l) + 1 {
				lists = append(lists, slices.Insert(slices.Clone(l), at, no))
			}
		}
		for _, l := range lists {
			if n, e := clock.Spread(l); n != 0 || e != api.ErrArg {
				t.Errorf("Spread(%v) = %d, %d", l, n, e)
			}
		}
	}
}

// TestSpreadLeavesTheList is of P4.2 and R4: the list is as it was, and so is what lies behind its end.
func TestSpreadLeavesTheList(t *testing.T) {
	for _, all := range [][]int{{9, 5, 2, 7, 1}, {0, mostTime, 3, 3, 0}, {4, -1, 2, 8, 6}} {
		was := slices.Clone(all)
		clock.Spread(all[:4])
		if !slices.Equal(all, was) {
			t.Errorf("%v became %v", was, all)
		}
	}
}

// ticks lets time go on by one after the other, till there is an error.
func ticks(now int, ds ...int) (int, api.Errno) {
	e := api.OK
	for _, d := range ds {
		if now, e = clock.Tick(now, d); e != api.OK {
			return now, e
		}
	}
	return now, e
}

// TestTicksAddUp is of P4.3: in any order ticks come to their sum, or are too much; so does a tick of two that are added first.
func TestTicksAddUp(t *testing.T) {
	for _, a := range times() {
		for _, b := range times() {
			for _, c := range times() {
				want, why := 0, api.ErrOver
				if s := sum(a, b, c); s.Cmp(big.NewInt(mostTime)) <= 0 {
					want, why = int(s.Int64()), api.OK
				}
				for _, l := range [][3]int{{a, b, c}, {a, c, b}, {b, a, c}} {
					if n, e := ticks(l[0], l[1], l[2]); n != want || e != why {
						t.Errorf("%v come to %d, %d, not %d, %d", l, n, e, want, why)
					}
				}
				both, e := clock.Tick(b, c)
				n := 0
				if e == api.OK {
					n, e = clock.Tick(a, both)
				}
				if n != want || e != why {
					t.Errorf("%d, and %d with %d: %d, %d, not %d, %d", a, b, c, n, e, want, why)
				}
			}
		}
	}
}

// TestTickedIsAgo is of P4.3: what time went on by is how long ago it was.
func TestTickedIsAgo(t *testing.T) {
	for _, now := range times() {
		for _, d := range times() {
			then, e := clock.Tick(now, d)
			if e != api.OK {
				continue
			}
			if ago, e := clock.Since(then, now); ago != d || e != api.OK {
				t.Errorf("%d after %d: Since(%d, %d) = %d, %d", d, now, then, now, ago, e)
			}
		}
	}
}

// TestLateStaysLate is of P4.3: who is late is late at each later time; who is not was not at any time ahead.
func TestLateStaysLate(t *testing.T) {
	for _, from := range times() {
		was := false
		for _, now := range times() {
			is, e := clock.Late(now, from)
			if e != api.OK || was && !is {
				t.Errorf("since %d somebody was late ahead of %d: %v; then %v, %d", from, now, was, is, e)
			}
			was = is
		}
		if last, _ := clock.Late(mostTime, from); last != (from < mostTime-thresh) {
			t.Errorf("since %d somebody is late in the end: %v", from, last)
		}
	}
}

// TestNobodyIsFartherApart is of P4.3: no two of the times are farther apart than the spread, and two are so far.
func TestNobodyIsFartherApart(t *testing.T) {
	all := times()
	for at := range all {
		for end := at + 1; end <= len(all); end++ {
			l := append(slices.Clone(all[end-1:end]), all[at:end]...)
			spread, e := clock.Spread(l)
			farthest := 0
			for _, now := range l {
				for _, from := range l {
					n, _ := clock.Since(now, from)
					farthest = max(farthest, n)
				}
			}
			if spread != farthest || e != api.OK {
				t.Errorf("Spread(%v) = %d, %d, and two are %d apart", l, spread, e, farthest)
			}
		}
	}
}
