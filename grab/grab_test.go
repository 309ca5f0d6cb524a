package grab_test

import (
	"math"
	"slices"
	"testing"

	"deadbolt/api"
	"deadbolt/flags"
	"deadbolt/grab"
)

const (
	mostTime    = 1 << 62
	thresh      = 1000000
	mostWaiters = 1<<28 - 1
	mostWord    = 1<<31 - 1
	leastInt    = math.MinInt
	mostInt     = math.MaxInt
)

// word is the one of a text.
func word(text string) int {
	w, e := flags.Parse(text)
	if e != api.OK {
		panic("no word: " + text)
	}
	return w
}

// said is what a word says, digit by digit.
type said struct {
	locked, woken, starving bool
	waiters                 int
}

func says(word int) said {
	return said{locked: word%2 == 1, woken: word/2%2 == 1, starving: word/4%2 == 1, waiters: word / 8}
}

// word is the one that says so.
func (s said) word() int {
	n := 8 * s.waiters
	if s.locked {
		n++
	}
	if s.woken {
		n += 2
	}
	if s.starving {
		n += 4
	}
	return n
}

// words is each set of bits with the least and the greatest numbers of who waits.
func words() []int {
	var l []int
	for bits := range 8 {
		for _, waiters := range []int{0, 1, 2, 3, mostWaiters - 1, mostWaiters} {
			l = append(l, bits+8*waiters)
		}
	}
	return l
}

// noWords are numbers that are no word, on either side, and such as would be one, were their high bits left out.
func noWords() []int {
	return []int{-1, -2, -5, -8, -29, -mostWord, -mostWord - 1, -1 << 32, 1 << 31, 1<<31 + 1, 1<<31 + 29, 1<<32 - 1, 1 << 32, 1<<32 + 29, mostTime, mostInt - 1, mostInt, leastInt, leastInt + 1, leastInt + 29}
}

// times are the least and the greatest ones, and some between.
func times() []int {
	return []int{0, 1, 7, thresh, thresh + 1, mostTime - thresh - 1, mostTime - 1, mostTime}
}

// noTimes are numbers that are no time.
func noTimes() []int {
	return []int{-1, -2, -thresh, -mostTime, leastInt, leastInt + 1, mostTime + 1, mostTime + 2, mostInt - 1, mostInt}
}

// sinces is since when somebody may wait.
func sinces() []int { return append([]int{-1}, times()...) }

// noSinces is since when nobody may wait: -1 alone is none of them, of what is no time.
func noSinces() []int { return noTimes()[1:] }

// noRounds are numbers of rounds that may not be.
func noRounds() []int {
	return []int{-1, -2, -4, -1 << 32, 5, 6, 8, 1 << 32, 1<<32 + 1, mostInt - 1, mostInt, leastInt, leastInt + 1, leastInt + 4}
}

// noRunnables are counts of who runs that may not be.
func noRunnables() []int {
	return []int{-1, -2, -1 << 32, -1<<32 + 2, leastInt, leastInt + 1, leastInt + 2}
}

// moods is all that may be remembered of who starves and who is awake.
func moods() []api.Own {
	return []api.Own{{}, {Starving: true}, {Awake: true}, {Starving: true, Awake: true}}
}

// owns is what may be remembered: all of the numbers above, with each other.
func owns() []api.Own {
	var l []api.Own
	for _, o := range moods() {
		for _, o.Since = range sinces() {
			for o.Rounds = range 5 {
				for _, o.Old = range words() {
					l = append(l, o)
				}
			}
		}
	}
	return l
}

// fewOwns is some of what may be remembered: each number once beside each mood.
func fewOwns() []api.Own {
	var l []api.Own
	for _, o := range moods() {
		for i, old := range words() {
			o.Old, o.Since, o.Rounds = old, sinces()[i%len(sinces())], i%5
			l = append(l, o)
		}
	}
	return l
}

// wrongOwns is what may not be remembered: one field wrong at a time, then two, then all.
func wrongOwns() []api.Own {
	var l []api.Own
	add := func(o api.Own, change func(o *api.Own)) {
		change(&o)
		l = append(l, o)
	}
	for _, o := range fewOwns() {
		for _, since := range noSinces() {
			add(o, func(o *api.Own) { o.Since = since })
			add(o, func(o *api.Own) { o.Since, o.Rounds = since, 5 })
			add(o, func(o *api.Own) { o.Since, o.Old = since, -1 })
		}
		for _, rounds := range noRounds() {
			add(o, func(o *api.Own) { o.Rounds = rounds })
			add(o, func(o *api.Own) { o.Rounds, o.Old = rounds, mostWord+1 })
		}
		for _, old := range noWords() {
			add(o, func(o *api.Own) { o.Old = old })
			add(o, func(o *api.Own) { o.Since, o.Rounds, o.Old = -2, -1, old })
		}
	}
	return l
}

// TestApi is of P14.1 to P14.4: the bounds and bits are those that package api names.
func TestApi(t *testing.T) {
	if api.MaxSpins != 4 || api.MaxTime != mostTime || api.Thresh != thresh || api.MaxWaiters != mostWaiters {
		t.Error(api.MaxSpins, api.MaxTime, api.Thresh, api.MaxWaiters)
	}
	if got := [4]int{api.Locked, api.Woken, api.Starving, api.One}; got != [4]int{1, 2, 4, 8} {
		t.Error(got)
	}
}

// TestRightAtEdges is of P14.1: each field at its ends, and next to them.
func TestRightAtEdges(t *testing.T) {
	for i, x := range []struct {
		o    api.Own
		want bool
	}{
		{api.Own{}, true}, {api.Own{Since: -1}, true}, {api.Own{Since: 1}, true}, {api.Own{Since: mostTime - 1}, true}, {api.Own{Since: mostTime}, true},
		{api.Own{Since: -2}, false}, {api.Own{Since: mostTime + 1}, false}, {api.Own{Since: mostInt}, false}, {api.Own{Since: leastInt}, false},
		{api.Own{Rounds: 1}, true}, {api.Own{Rounds: 3}, true}, {api.Own{Rounds: 4}, true}, {api.Own{Rounds: -1}, false}, {api.Own{Rounds: 5}, false}, {api.Own{Rounds: mostInt}, false}, {api.Own{Rounds: leastInt}, false},
		{api.Own{Old: 1}, true}, {api.Own{Old: mostWord - 1}, true}, {api.Own{Old: mostWord}, true}, {api.Own{Old: -1}, false}, {api.Own{Old: mostWord + 1}, false}, {api.Own{Old: mostInt}, false}, {api.Own{Old: leastInt}, false},
		{api.Own{Starving: true}, true}, {api.Own{Awake: true}, true}, {api.Own{Since: -1, Starving: true, Awake: true, Rounds: 4, Old: mostWord}, true}, {api.Own{Since: mostTime, Starving: true, Awake: true, Rounds: 4, Old: mostWord}, true},
		{api.Own{Since: -2, Starving: true, Awake: true}, false}, {api.Own{Since: -1, Starving: true, Awake: true, Rounds: 5}, false}, {api.Own{Since: -2, Rounds: -1, Old: -1}, false},
	} {
		if is := grab.Right(x.o); is != x.want {
			t.Errorf("%d: Right(%v) = %v", i, x.o, is)
		}
	}
}

// TestRight is of P14.1: all that may be, with whatever else.
func TestRight(t *testing.T) {
	for _, o := range owns() {
		if !grab.Right(o) {
			t.Errorf("%v may be", o)
		}
	}
}

// TestFresh is of P14.1: nobody waits yet, and all else is zero; that may be.
func TestFresh(t *testing.T) {
	if o := grab.Fresh(); o != (api.Own{Since: -1}) || !grab.Right(o) {
		t.Errorf("Fresh() = %v", o)
	}
}

// refused holds that one is told ErrArg, and nothing beside it.
type refused struct {
	t *testing.T
	o api.Own
}

func (r refused) is(name string, is bool, e api.Errno, rest ...int) {
	r.t.Helper()
	if is || e != api.ErrArg {
		r.t.Errorf("%s(%v, %v) = %v, %d", name, r.o, rest, is, e)
	}
}

func (r refused) number(name string, n int, e api.Errno) {
	r.t.Helper()
	if n != 0 || e != api.ErrArg {
		r.t.Errorf("%s(%v) = %d, %d", name, r.o, n, e)
	}
}

func (r refused) sleep(now int) {
	r.t.Helper()
	if p, first, e := grab.Sleep(r.o, now); p != (api.Own{}) || first || e != api.ErrArg {
		r.t.Errorf("Sleep(%v, %d) = %v, %v, %d", r.o, now, p, first, e)
	}
}

func (r refused) wake(now, word int) {
	r.t.Helper()
	if p, handed, e := grab.Wake(r.o, now, word); p != (api.Own{}) || handed || e != api.ErrArg {
		r.t.Errorf("Wake(%v, %d, %d) = %v, %v, %d", r.o, now, word, p, handed, e)
	}
}

func (r refused) spins(runnable int) {
	r.t.Helper()
	is, e := grab.Spins(r.o, runnable)
	r.is("Spins", is, e, runnable)
}

// TestWrongOwns is of P14.1 to P14.4, and P1: what is remembered may not be; all calls find that, ahead of what the word says, be what else is handed right or wrong.
func TestWrongOwns(t *testing.T) {
	for _, o := range wrongOwns() {
		if grab.Right(o) {
			t.Errorf("%v may not be", o)
		}
		r := refused{t, o}
		is, e := grab.Wakes(o)
		r.is("Wakes", is, e)
		is, e = grab.Got(o)
		r.is("Got", is, e)
		n, e := grab.Wants(o)
		r.number("Wants", n, e)
		n, e = grab.Handed(o)
		r.number("Handed", n, e)
		for _, runnable := range []int{0, 1, 2, mostInt, -1, leastInt} {
			r.spins(runnable)
		}
		for _, now := range []int{0, thresh + 1, mostTime, -1, mostTime + 1} {
			r.sleep(now)
			for _, word := range []int{0, 29, mostWord, -1, mostWord + 1} {
				r.wake(now, word)
			}
		}
	}
}

// TestWrongArguments is of P14.1 and P1: what is remembered may be, and what else is handed may not, alone and both.
func TestWrongArguments(t *testing.T) {
	for _, o := range owns() {
		r := refused{t, o}
		for _, runnable := range noRunnables() {
			r.spins(runnable)
		}
		for _, now := range noTimes() {
			r.sleep(now)
			r.wake(now, 0)
			r.wake(now, word("--S2"))
			r.wake(now, -1)
		}
		for _, no := range noWords() {
			r.wake(0, no)
			r.wake(mostTime, no)
			r.wake(mostTime+1, no)
		}
	}
}

// TestSpinsAtEdges is of P14.1: rounds of 3 and 4, runnable of 1 and 2, and each set of bits.
func TestSpinsAtEdges(t *testing.T) {
	for i, x := range []struct {
		rounds, runnable int
		old              string
		want             bool
	}{
		{0, 2, "L--0", true}, {0, 2, "LW-0", true}, {0, 2, "---0", false}, {0, 2, "-W-0", false}, {0, 2, "--S0", false}, {0, 2, "-WS0", false}, {0, 2, "L-S0", false}, {0, 2, "LWS0", false},
		{0, 2, "L--1", true}, {0, 2, "L--268435455", true}, {0, 2, "LW-268435455", true}, {0, 2, "---1", false}, {0, 2, "L-S268435455", false},
		{0, 0, "L--0", false}, {0, 1, "L--0", false}, {0, 3, "L--0", true}, {0, 8, "L--0", true}, {0, mostInt, "L--0", true},
		{1, 2, "L--0", true}, {3, 2, "L--0", true}, {4, 2, "L--0", false}, {3, 1, "L--0", false}, {4, 1, "L--0", false}, {4, mostInt, "L--0", false}, {4, 2, "---0", false},
	} {
		if is, e := grab.Spins(api.Own{Since: -1, Rounds: x.rounds, Old: word(x.old)}, x.runnable); is != x.want || e != api.OK {
			t.Errorf("%d: %v: %v, %d", i, x, is, e)
		}
	}
}

// TestSpins is of P14.1: all that may be remembered; since when he waits, whether he starves and is awake, and who else waits make no difference.
func TestSpins(t *testing.T) {
	for _, o := range owns() {
		for _, runnable := range []int{0, 1, 2, 3, 8, mostInt} {
			want := slices.Contains([]int{1, 3}, o.Old%8) && o.Rounds != 4 && runnable != 0 && runnable != 1
			if is, e := grab.Spins(o, runnable); is != want || e != api.OK {
				t.Errorf("Spins(%v, %d) = %v, %d", o, runnable, is, e)
			}
		}
	}
}

// TestWakesAtEdges is of P14.1: nobody waits, and one; each set of bits; who is awake.
func TestWakesAtEdges(t *testing.T) {
	for i, x := range []struct {
		awake bool
		old   string
		want  bool
	}{
		{false, "---0", false}, {false, "---1", true}, {false, "---2", true}, {false, "---268435454", true}, {false, "---268435455", true},
		{false, "L--1", true}, {false, "--S1", true}, {false, "L-S1", true}, {false, "-W-1", false}, {false, "LW-1", false}, {false, "-WS1", false}, {false, "LWS268435455", false},
		{false, "L--0", false}, {false, "L-S0", false}, {false, "-W-0", false},
		{true, "---0", false}, {true, "---1", false}, {true, "L--1", false}, {true, "L--268435455", false}, {true, "-W-1", false}, {true, "LW-0", false},
	} {
		if is, e := grab.Wakes(api.Own{Since: -1, Awake: x.awake, Old: word(x.old)}); is != x.want || e != api.OK {
			t.Errorf("%d: %v: %v, %d", i, x, is, e)
		}
	}
}

// TestWakes is of P14.1: all that may be remembered.
func TestWakes(t *testing.T) {
	for _, o := range owns() {
		s := says(o.Old)
		want := !o.Awake && !s.woken && s.waiters != 0
		if is, e := grab.Wakes(o); is != want || e != api.OK {
			t.Errorf("Wakes(%v) = %v, %d", o, is, e)
		}
	}
}

// TestWantsAtEdges is of P14.2: each set of bits, for who comes, who starves, who is awake, and both; and as many who wait as may be.
func TestWantsAtEdges(t *testing.T) {
	comes, starves := api.Own{Since: -1}, api.Own{Since: 5, Starving: true}
	awake, both := api.Own{Since: 5, Awake: true}, api.Own{Since: 5, Awake: true, Starving: true}
	for i, x := range []struct {
		o    api.Own
		old  string
		want string
	}{
		{comes, "---0", "L--0"}, {comes, "L--0", "L--1"}, {comes, "-W-0", "LW-0"}, {comes, "LW-0", "LW-1"}, {comes, "--S0", "--S1"}, {comes, "L-S0", "L-S1"}, {comes, "-WS0", "-WS1"}, {comes, "LWS0", "LWS1"},
		{starves, "---2", "L--2"}, {starves, "L--2", "L-S3"}, {starves, "-W-2", "LW-2"}, {starves, "LW-2", "LWS3"}, {starves, "--S2", "--S3"}, {starves, "L-S2", "L-S3"}, {starves, "-WS2", "-WS3"}, {starves, "LWS2", "LWS3"},
		{awake, "-W-1", "L--1"}, {awake, "LW-1", "L--2"}, {awake, "-WS1", "--S2"}, {awake, "LWS1", "L-S2"},
		{both, "-W-1", "L--1"}, {both, "LW-1", "L-S2"}, {both, "-WS1", "--S2"}, {both, "LWS1", "L-S2"}, {both, "LW-2", "L-S3"},
		{comes, "L--268435454", "L--268435455"}, {comes, "--S268435454", "--S268435455"}, {comes, "L-S268435454", "L-S268435455"}, {starves, "LW-268435454", "LWS268435455"}, {both, "LW-268435454", "L-S268435455"}, {awake, "-WS268435454", "--S268435455"},
		{comes, "---268435455", "L--268435455"}, {comes, "-W-268435455", "LW-268435455"}, {starves, "---268435455", "L--268435455"}, {awake, "-W-268435455", "L--268435455"}, {both, "-W-268435455", "L--268435455"},
	} {
		x.o.Old = word(x.old)
		if n, e := grab.Wants(x.o); n != word(x.want) || e != api.OK {
			t.Errorf("%d: Wants(%v) = %d, %d, not %s", i, x.o, n, e, x.want)
		}
	}
}

// TestWantsErrors is of P14.2: who is awake by a word that is not Woken, one more than may wait, and the first of both; and what may not be remembered ahead of them.
func TestWantsErrors(t *testing.T) {
	for i, x := range []struct {
		o    api.Own
		want api.Errno
	}{
		{api.Own{Since: 5, Awake: true, Old: word("---0")}, api.ErrBroken}, {api.Own{Since: 5, Awake: true, Old: word("L--2")}, api.ErrBroken}, {api.Own{Since: 5, Awake: true, Old: word("--S2")}, api.ErrBroken}, {api.Own{Since: -1, Awake: true, Starving: true, Old: word("L-S2")}, api.ErrBroken}, {api.Own{Since: -1, Awake: true, Old: word("---268435455")}, api.ErrBroken},
		{api.Own{Since: -1, Old: word("L--268435455")}, api.ErrOver}, {api.Own{Since: -1, Old: word("--S268435455")}, api.ErrOver}, {api.Own{Since: -1, Old: word("L-S268435455")}, api.ErrOver}, {api.Own{Since: -1, Old: word("LWS268435455")}, api.ErrOver}, {api.Own{Since: 5, Starving: true, Old: word("LW-268435455")}, api.ErrOver}, {api.Own{Since: 5, Awake: true, Old: word("LW-268435455")}, api.ErrOver}, {api.Own{Since: 5, Awake: true, Starving: true, Old: word("-WS268435455")}, api.ErrOver},
		{api.Own{Since: 5, Awake: true, Old: word("L--268435455")}, api.ErrBroken}, {api.Own{Since: 5, Awake: true, Starving: true, Old: word("--S268435455")}, api.ErrBroken}, {api.Own{Since: 5, Awake: true, Old: word("L-S268435455")}, api.ErrBroken},
		{api.Own{Since: -2, Awake: true, Old: word("L--2")}, api.ErrArg}, {api.Own{Since: 5, Awake: true, Rounds: 5, Old: word("L--268435455")}, api.ErrArg}, {api.Own{Since: mostTime + 1, Old: word("L--268435455")}, api.ErrArg}, {api.Own{Since: 5, Awake: true, Old: mostWord + 1}, api.ErrArg}, {api.Own{Since: 5, Awake: true, Old: -3}, api.ErrArg},
	} {
		if n, e := grab.Wants(x.o); n != 0 || e != x.want {
			t.Errorf("%d: Wants(%v) = %d, %d, not %d", i, x.o, n, e, x.want)
		}
	}
}

// wantOf is the word that is to be wanted, put together of what the other one says, without bounds.
func wantOf(o api.Own) (int, api.Errno) {
	old := says(o.Old)
	if o.Awake && !old.woken {
		return 0, api.ErrBroken
	}
	want := said{locked: old.locked || !old.starving, woken: old.woken && !o.Awake, starving: old.starving || o.Starving && old.locked, waiters: old.waiters}
	if old.locked || old.starving {
		want.waiters++
	}
	if want.waiters > mostWaiters {
		return 0, api.ErrOver
	}
	return want.word(), api.OK
}

// TestWants is of P14.2: all that may be remembered.
func TestWants(t *testing.T) {
	for _, o := range owns() {
		want, why := wantOf(o)
		if n, e := grab.Wants(o); n != want || e != why {
			t.Errorf("Wants(%v) = %d, %d, not %d, %d", o, n, e, want, why)
		}
	}
}

// TestGot is of P14.2: who has what he wants has the mutex by each of the sets of bits without Locked and Starving, and by no other, however many wait, be he starving, awake or not.
func TestGot(t *testing.T) {
	for _, o := range owns() {
		want := o.Old%8 == 0 || o.Old%8 == 2
		if is, e := grab.Got(o); is != want || e != api.OK {
			t.Errorf("Got(%v) = %v, %d", o, is, e)
		}
	}
}

// TestSleepAtEdges is of P14.3: the first time, at the least and the greatest times; from the second time on, be now later, the same or ahead.
func TestSleepAtEdges(t *testing.T) {
	for i, x := range []struct {
		since, now, want int
		first            bool
	}{
		{-1, 0, 0, false}, {-1, 1, 1, false}, {-1, 7, 7, false}, {-1, mostTime - 1, mostTime - 1, false}, {-1, mostTime, mostTime, false},
		{0, 0, 0, true}, {0, 1, 0, true}, {0, mostTime, 0, true}, {1, 0, 1, true}, {7, 7, 7, true}, {7, 9, 7, true}, {9, 7, 9, true}, {mostTime, 0, mostTime, true}, {mostTime, mostTime, mostTime, true}, {mostTime - 1, mostTime, mostTime - 1, true},
	} {
		if o, first, e := grab.Sleep(api.Own{Since: x.since}, x.now); o != (api.Own{Since: x.want}) || first != x.first || e != api.OK {
			t.Errorf("%d: Sleep since %d at %d: %v, %v, %d", i, x.since, x.now, o, first, e)
		}
	}
}

// TestSleep is of P14.3: all that may be remembered; but for since when he waits, all of it is kept; a second time nothing changes.
func TestSleep(t *testing.T) {
	for _, o := range owns() {
		for _, now := range times() {
			want := o
			if o.Since == -1 {
				want.Since = now
			}
			p, first, e := grab.Sleep(o, now)
			if p != want || first != (o.Since != -1) || e != api.OK {
				t.Errorf("Sleep(%v, %d) = %v, %v, %d", o, now, p, first, e)
			}
			for _, later := range []int{0, now, mostTime} {
				if q, first, e := grab.Sleep(p, later); q != want || !first || e != api.OK {
					t.Errorf("Sleep(%v, %d) = %v, %v, %d", p, later, q, first, e)
				}
			}
		}
	}
}

// TestWakeAtEdges is of P14.3: just as late as may be, one less and one more; now ahead of since when he waits; who does not wait; who starves already; words that are handed on, and others.
func TestWakeAtEdges(t *testing.T) {
	for i, x := range []struct {
		since, now int
		starves    bool
		word       string
		want       bool
	}{
		{0, 0, false, "---1", false}, {0, thresh - 1, false, "---1", false}, {0, thresh, false, "---1", false}, {0, thresh + 1, false, "---1", true}, {0, thresh, false, "--S1", false}, {0, thresh + 1, false, "--S1", true}, {0, mostTime, false, "L-S1", true},
		{7, thresh + 6, false, "-W-2", false}, {7, thresh + 7, false, "-W-2", false}, {7, thresh + 8, false, "-W-2", true}, {7, thresh + 8, false, "-WS2", true},
		{mostTime - thresh, mostTime, false, "---0", false}, {mostTime - thresh - 1, mostTime, false, "---0", true}, {mostTime - thresh - 1, mostTime - 1, false, "---0", false},
		{mostTime, 0, false, "---0", false}, {mostTime, mostTime, false, "--S0", false}, {thresh + 1, 0, false, "--S1", false}, {2 * thresh, thresh, false, "---1", false},
		{-1, 0, false, "---0", false}, {-1, thresh, false, "---0", false}, {-1, thresh + 1, false, "---0", false}, {-1, mostTime, false, "---0", false}, {-1, mostTime, false, "--S1", false},
		{-1, 0, true, "---0", true}, {-1, mostTime, true, "--S1", true}, {0, 0, true, "---1", true}, {0, thresh, true, "--S1", true}, {0, thresh + 1, true, "L--1", true}, {mostTime, 0, true, "---268435455", true}, {7, 9, true, "LWS268435455", true},
	} {
		o := api.Own{Since: x.since, Starving: x.starves, Rounds: 3, Old: word("L--2")}
		want := api.Own{Since: x.since, Starving: x.want, Rounds: 3, Old: word(x.word)}
		handed := says(want.Old).starving
		if !handed {
			want.Awake, want.Rounds = true, 0
		}
		if p, is, e := grab.Wake(o, x.now, want.Old); p != want || is != handed || e != api.OK {
			t.Errorf("%d: Wake(%v, %d, %s) = %v, %v, %d, not %v", i, o, x.now, x.word, p, is, e, want)
		}
	}
}

// TestWakeHanded is of P14.3: where the word is Starving, whether he is awake and how often he went round stay; where it is not, he is awake, and did not go round.
func TestWakeHanded(t *testing.T) {
	for _, awake := range []bool{false, true} {
		for rounds := range 5 {
			for _, now := range words() {
				o := api.Own{Since: 5, Awake: awake, Rounds: rounds, Old: word("LWS7")}
				want := api.Own{Since: 5, Awake: true, Old: now}
				if says(now).starving {
					want = api.Own{Since: 5, Awake: awake, Rounds: rounds, Old: now}
				}
				if p, handed, e := grab.Wake(o, 9, now); p != want || handed != says(now).starving || e != api.OK {
					t.Errorf("Wake(%v, 9, %d) = %v, %v, %d", o, now, p, handed, e)
				}
			}
		}
	}
}

// around is the times next to where somebody who waits since then is late, those next to then, and the ends.
func around(since int) []int {
	l := []int{0, mostTime}
	for _, d := range []int{-1, 0, 1, thresh - 1, thresh, thresh + 1} {
		if now := since + d; now >= 0 && now <= mostTime {
			l = append(l, now)
		}
	}
	return l
}

// lateBy tells whether more than may be lies between two times.
func lateBy(now, since int) bool { return since >= 0 && since < now && now-since > thresh }

// TestWake is of P14.3: all that may be remembered; who starves stays so, and since when he waits is kept.
func TestWake(t *testing.T) {
	for _, o := range owns() {
		for _, now := range around(o.Since) {
			for _, w := range []int{0, word("L--1"), word("-W-2"), word("--S1"), word("LWS268435455")} {
				want := api.Own{Since: o.Since, Starving: o.Starving || lateBy(now, o.Since), Awake: true, Old: w}
				handed := says(w).starving
				if handed {
					want.Awake, want.Rounds = o.Awake, o.Rounds
				}
				if p, is, e := grab.Wake(o, now, w); p != want || is != handed || e != api.OK {
					t.Errorf("Wake(%v, %d, %d) = %v, %v, %d, not %v", o, now, w, p, is, e, want)
				}
			}
		}
	}
}

// TestHandedAtEdges is of P14.4: who starves and who does not, the last one and one ahead of others; a word that is Locked, or Woken, or by which nobody waits.
func TestHandedAtEdges(t *testing.T) {
	for i, x := range []struct {
		starves bool
		old     string
		want    int
		why     api.Errno
	}{
		{true, "--S2", -7, api.OK}, {true, "--S3", -7, api.OK}, {true, "--S268435454", -7, api.OK}, {true, "--S268435455", -7, api.OK}, {true, "--S1", -11, api.OK},
		{false, "--S1", -11, api.OK}, {false, "--S2", -11, api.OK}, {false, "--S268435455", -11, api.OK},
		{true, "---2", -7, api.OK}, {true, "---1", -11, api.OK}, {false, "---1", -11, api.OK}, {false, "---2", -11, api.OK},
		{true, "L-S2", 0, api.ErrBroken}, {false, "L-S2", 0, api.ErrBroken}, {true, "L--2", 0, api.ErrBroken}, {true, "-WS2", 0, api.ErrBroken}, {false, "-WS1", 0, api.ErrBroken}, {true, "LWS2", 0, api.ErrBroken},
		{true, "--S0", 0, api.ErrBroken}, {false, "--S0", 0, api.ErrBroken}, {false, "---0", 0, api.ErrBroken}, {true, "LWS0", 0, api.ErrBroken}, {false, "L-S268435455", 0, api.ErrBroken}, {false, "-WS268435455", 0, api.ErrBroken},
	} {
		o := api.Own{Since: 5, Starving: x.starves, Old: word(x.old)}
		if n, e := grab.Handed(o); n != x.want || e != x.why {
			t.Errorf("%d: Handed(%v) = %d, %d", i, o, n, e)
		}
	}
}

// TestHandedErrors is of P14.4: what may not be remembered is found ahead of words that do not fit.
func TestHandedErrors(t *testing.T) {
	for i, o := range []api.Own{{Since: -2, Old: word("L-S2")}, {Since: mostTime + 1, Old: word("-WS2")}, {Rounds: 5, Old: word("--S0")}, {Rounds: -1, Old: word("LWS0")}, {Old: -1}, {Old: mostWord + 1}, {Old: leastInt}, {Old: mostInt}} {
		if n, e := grab.Handed(o); n != 0 || e != api.ErrArg {
			t.Errorf("%d: Handed(%v) = %d, %d", i, o, n, e)
		}
	}
}

// TestHanded is of P14.4: all that may be remembered; whether he is awake, since when he waits and how often he went round make no difference.
func TestHanded(t *testing.T) {
	for _, o := range owns() {
		old := says(o.Old)
		want, why := -7, api.OK
		switch {
		case old.locked || old.woken || old.waiters == 0:
			want, why = 0, api.ErrBroken
		case !o.Starving || old.waiters == 1:
			want = -11
		}
		if n, e := grab.Handed(o); n != want || e != why {
			t.Errorf("Handed(%v) = %d, %d, not %d, %d", o, n, e, want, why)
		}
	}
}

// TestWantsClearsNothing is of P14.5: of each word that is wanted, how it differs from the one that was seen.
func TestWantsClearsNothing(t *testing.T) {
	for _, o := range owns() {
		n, e := grab.Wants(o)
		if e != api.OK {
			continue
		}
		got, e := grab.Got(o)
		if e != api.OK {
			t.Fatalf("Got(%v): %d", o, e)
		}
		old, want := says(o.Old), says(n)
		if want.locked != (old.locked || !old.starving) {
			t.Errorf("%v wants %d: one that is handed on is not to be had, and another one is", o, n)
		}
		if lost := o.Old % 8 &^ n; lost != 0 && (lost != 2 || !o.Awake) {
			t.Errorf("%v wants %d: %d was set by others", o, n, lost)
		}
		if want.woken && (!old.woken || o.Awake) {
			t.Errorf("%v wants %d: nobody is awake by that", o, n)
		}
		if want.starving != (old.starving || o.Starving && old.locked) {
			t.Errorf("%v wants %d: it starves, or does not", o, n)
		}
		if more := want.waiters - old.waiters; more != 0 && more != 1 || got != (more == 0) {
			t.Errorf("%v wants %d: %d more wait, where it has it: %v", o, n, more, got)
		}
		if got && (!want.locked || old.locked || old.starving) {
			t.Errorf("%v wants %d, and has it", o, n)
		}
	}
}

// TestWantsIsOverByOne is of P14.2 and P14.5: with each set of bits, one more than may wait is ErrOver just where one is added.
func TestWantsIsOverByOne(t *testing.T) {
	for _, o := range owns() {
		if o.Awake && !says(o.Old).woken {
			continue
		}
		got, _ := grab.Got(o)
		_, e := grab.Wants(o)
		if over := !got && says(o.Old).waiters == mostWaiters; over != (e == api.ErrOver) || !over && e != api.OK {
			t.Errorf("Wants(%v): %d", o, e)
		}
	}
}

// TestHandedTakes is of P14.5: with its bit Starving set, a word is changed to one that is Locked, not Woken, with one less who waits; Starving goes where he does not starve, or nobody else waits, and nowhere else.
func TestHandedTakes(t *testing.T) {
	for _, o := range owns() {
		n, e := grab.Handed(o)
		if e != api.OK {
			continue
		}
		before := o.Old | 4
		after := before + n
		f, e := flags.Unpack(after)
		want := api.Flags{Locked: true, Starving: o.Starving && before/8 != 1, Waiters: before/8 - 1}
		if f != want || e != api.OK {
			t.Errorf("Handed(%v) makes %d of %d: %v, %d, not %v", o, after, before, f, e, want)
		}
	}
}

// step holds that one answer is as it is to be.
func step[A comparable](t *testing.T, name string, got, want A, e api.Errno) {
	t.Helper()
	if got != want || e != api.OK {
		t.Fatalf("%s: %v, %d, not %v", name, got, e, want)
	}
}

// TestWaits is of P14.1 to P14.5: one comes to a mutex that is locked, waits, is woken in time, is too late for the mutex, waits again as the first, is woken too late, makes it starve, and has it handed on.
func TestWaits(t *testing.T) {
	const came = 40
	o := grab.Fresh()
	o.Old = word("L--0")
	n, e := grab.Wants(o)
	step(t, "he wants to wait", n, word("L--1"), e)
	o, first, e := grab.Sleep(o, came)
	step(t, "he came last", first, false, e)
	o, handed, e := grab.Wake(o, came+thresh, word("LW-0"))
	step(t, "he competes", handed, false, e)
	step(t, "he was told in time", o, api.Own{Since: came, Awake: true, Old: word("LW-0")}, e)
	is, e := grab.Spins(o, 2)
	step(t, "he may go round", is, true, e)
	n, e = grab.Wants(o)
	step(t, "he wants to wait again", n, word("L--1"), e)
	o, first, e = grab.Sleep(o, came+thresh)
	step(t, "he goes ahead of others", first, true, e)
	o, handed, e = grab.Wake(o, came+thresh+1, word("LW-1"))
	step(t, "he competes once more", handed, false, e)
	n, e = grab.Wants(o)
	step(t, "he makes it starve", n, word("L-S2"), e)
	o, first, e = grab.Sleep(o, came+thresh+1)
	step(t, "he goes ahead of others again", first, true, e)
	o, handed, e = grab.Wake(o, came+thresh+1, word("--S2"))
	step(t, "it is handed on", handed, true, e)
	n, e = grab.Handed(o)
	step(t, "it is his, and starves", o.Old+n, word("L-S1"), e)
}

// TestHandedInTime is of P14.5: whoever is handed the mutex makes it starve no more just where he waited no longer than may be, or alone.
func TestHandedInTime(t *testing.T) {
	for _, came := range times() {
		for _, now := range around(came) {
			for _, waiters := range []int{1, 2, 3, mostWaiters} {
				o, _, e := grab.Sleep(grab.Fresh(), came)
				step(t, "Sleep", o, api.Own{Since: came}, e)
				o, handed, e := grab.Wake(o, now, 4+8*waiters)
				step(t, "Wake", handed, true, e)
				n, e := grab.Handed(o)
				want := said{locked: true, starving: lateBy(now, came) && waiters > 1, waiters: waiters - 1}
				step(t, "Handed", says(o.Old+n), want, e)
			}
		}
	}
}

// TestEnds is of P1: no call panics, whatever it is handed, and what is answered beside an error is zero.
func TestEnds(t *testing.T) {
	numbers := []int{leastInt, -mostTime, -mostWord, -2, -1, 0, 1, 4, 5, 29, thresh + 1, mostWord, mostWord + 1, mostTime, mostTime + 1, mostInt}
	for _, o := range moods() {
		for _, o.Since = range numbers {
			for _, o.Rounds = range numbers {
				for _, o.Old = range numbers {
					for _, n := range numbers {
						all(t, o, n)
					}
				}
			}
		}
	}
}

// all makes each call that has a number beside what is remembered, and each that has none.
func all(t *testing.T, o api.Own, n int) {
	t.Helper()
	is, e := grab.Spins(o, n)
	zero(t, "Spins", is, e)
	is, e = grab.Wakes(o)
	zero(t, "Wakes", is, e)
	is, e = grab.Got(o)
	zero(t, "Got", is, e)
	w, e := grab.Wants(o)
	zero(t, "Wants", w, e)
	w, e = grab.Handed(o)
	zero(t, "Handed", w, e)
	p, is, e := grab.Sleep(o, n)
	zero(t, "Sleep", p, e)
	zero(t, "Sleep", is, e)
	p, is, e = grab.Wake(o, n, n)
	zero(t, "Wake", p, e)
	zero(t, "Wake", is, e)
	p, is, e = grab.Wake(o, 0, n)
	zero(t, "Wake", p, e)
	zero(t, "Wake", is, e)
}

// zero holds that nothing is told beside an error, and that it is one that the chapter lists.
func zero[A comparable](t *testing.T, name string, answer A, e api.Errno) {
	t.Helper()
	var none A
	if e != api.OK && answer != none {
		t.Errorf("%s: %v beside %d", name, answer, e)
	}
	if !slices.Contains([]api.Errno{api.OK, api.ErrArg, api.ErrOver, api.ErrBroken}, e) {
		t.Errorf("%s: %d", name, e)
	}
}
