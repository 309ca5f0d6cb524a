package park_test

import (
	"math"
	"slices"
	"testing"

	"deadbolt/api"
	"deadbolt/park"
)

const (
	leastInt = math.MinInt
	mostInt  = math.MaxInt
)

// The goroutines that may be: there are no others.
var (
	runs   = api.Gor{State: 0}
	permit = api.Gor{State: 0, Permit: true}
	parked = api.Gor{State: 1}
	done   = api.Gor{State: 2}
)

// may is the goroutines that may be.
func may() []api.Gor {
	return []api.Gor{runs, permit, parked, done}
}

// mayNot is goroutines that may not be: states that there are not, and a permit beside one that does not run.
func mayNot() []api.Gor {
	l := []api.Gor{{State: 1, Permit: true}, {State: 2, Permit: true}}
	for _, state := range []int{-1, 3, -2, 4, -256, 256, -1 << 32, 1 << 32, 1<<32 + 1, leastInt, leastInt + 1, leastInt + 2, mostInt - 1, mostInt} {
		l = append(l, api.Gor{State: state}, api.Gor{State: state, Permit: true})
	}
	return l
}

// rows is all rows of so many goroutines that may be.
func rows(n int) [][]api.Gor {
	all := [][]api.Gor{{}}
	for range n {
		var longer [][]api.Gor
		for _, l := range all {
			for _, g := range may() {
				longer = append(longer, append(slices.Clone(l), g))
			}
		}
		all = longer
	}
	return all
}

// someRows is rows of none to eight: all short ones, and of the long ones those that turn by a rule.
func someRows() [][]api.Gor {
	all := [][]api.Gor{nil}
	for n := range 5 {
		all = append(all, rows(n)...)
	}
	for n := 5; n <= 8; n++ {
		for from := range 4 {
			for step := range 4 {
				all = append(all, turning(n, from, step))
			}
		}
	}
	return all
}

// turning is n goroutines that may be: the first is the one of that number, and each other one is so many kinds behind the one ahead of it.
func turning(n, from, step int) []api.Gor {
	l := make([]api.Gor, n)
	for i := range l {
		l[i] = may()[(from+i*step)%4]
	}
	return l
}

// wrongRows is rows that may not be: more than eight, and one that may not be at each place of one to nine.
func wrongRows() [][]api.Gor {
	var all [][]api.Gor
	for _, n := range []int{9, 10, 64, 256, 1000} {
		for from := range 4 {
			all = append(all, turning(n, from, 0), turning(n, from, 1))
		}
	}
	for _, g := range mayNot() {
		for n := 1; n <= 9; n++ {
			for at := range n {
				for step := range 2 {
					all = append(all, with(turning(n, at, step), at, g))
				}
			}
		}
	}
	both := with(turning(8, 0, 1), 0, api.Gor{State: 3})
	return append(all, with(both, 7, api.Gor{State: -1}), with(both, 1, api.Gor{State: 1, Permit: true}))
}

// with is a row with another goroutine at a place.
func with(l []api.Gor, at int, g api.Gor) []api.Gor {
	m := slices.Clone(l)
	m[at] = g
	return m
}

// change is one of the calls that change a goroutine.
type change func(l []api.Gor, who int) ([]api.Gor, api.Errno)

// changes is all of them.
func changes() map[string]change {
	return map[string]change{"Park": park.Park, "Ready": park.Ready, "End": park.End}
}

// roomy is the same row, with room behind its end.
func roomy(l []api.Gor) []api.Gor {
	return append(slices.Clone(l), api.Gor{State: -5}, api.Gor{State: 1, Permit: true}, permit)[:len(l)]
}

// check holds what a change answers, that it leaves the row that it was handed, room and all, and that its answer shares nothing with that.
func check(t *testing.T, name string, l []api.Gor, who int, want []api.Gor, why api.Errno) {
	t.Helper()
	m := roomy(l)
	was := slices.Clone(m[:cap(m)])
	after, e := changes()[name](m, who)
	if !slices.Equal(after, want) || e != why {
		t.Fatalf("%s(%v, %d) = %v, %d, not %v, %d", name, l, who, after, e, want, why)
	}
	if !slices.Equal(m[:cap(m)], was) {
		t.Fatalf("%s(%v, %d) changed %v to %v", name, l, who, was, m[:cap(m)])
	}
	for i := range after[:cap(after)] {
		after[:cap(after)][i] = api.Gor{State: -77, Permit: true}
	}
	if !slices.Equal(m[:cap(m)], was) {
		t.Fatalf("%s(%v, %d) shares its answer with it", name, l, who)
	}
}

// checkRunnable holds what Runnable answers, and that the row and the answer are apart.
func checkRunnable(t *testing.T, l []api.Gor, want []int, why api.Errno) {
	t.Helper()
	m := roomy(l)
	was := slices.Clone(m[:cap(m)])
	if r, e := park.Runnable(m); !slices.Equal(r, want) || e != why {
		t.Fatalf("Runnable(%v) = %v, %d, not %v, %d", l, r, e, want, why)
	}
	if !slices.Equal(m[:cap(m)], was) {
		t.Fatalf("Runnable changed %v to %v", was, m[:cap(m)])
	}
}

// TestApi is of P11.1 and P11.2: the states, the limit and the errors are those that the document names.
func TestApi(t *testing.T) {
	if api.GRun != 0 || api.GPark != 1 || api.GDone != 2 || api.MaxGors != 8 {
		t.Error(api.GRun, api.GPark, api.GDone, api.MaxGors)
	}
	if api.OK != 0 || api.ErrArg != 1 || api.ErrRange != 3 || api.ErrState != 6 || api.ErrTwice != 7 {
		t.Error(api.OK, api.ErrArg, api.ErrRange, api.ErrState, api.ErrTwice)
	}
}

// TestExamples is of P11.1 and P11.2: the chapter's.
func TestExamples(t *testing.T) {
	l := []api.Gor{runs}
	check(t, "Ready", l, 0, []api.Gor{permit}, api.OK)
	check(t, "Park", []api.Gor{permit}, 0, l, api.OK)
	check(t, "Park", l, 0, []api.Gor{parked}, api.OK)
	check(t, "Ready", []api.Gor{parked}, 0, l, api.OK)
}

// TestRight is of P11.1: rows of none to eight, of any goroutines that may be.
func TestRight(t *testing.T) {
	for n := range 9 {
		for _, l := range rows(n) {
			if !park.Right(l) {
				t.Fatalf("%v may be", l)
			}
		}
	}
	if !park.Right(nil) || !park.Right([]api.Gor{}) || !park.Right(make([]api.Gor, 8)) {
		t.Error("none, and eight, may be")
	}
}

// TestRightBehindTheEnd is of P11.1: what stands behind a row's end is none of it.
func TestRightBehindTheEnd(t *testing.T) {
	l := roomy(turning(8, 0, 1))
	if !park.Right(l) || !park.Right(l[:0]) || !park.Right(make([]api.Gor, 8, 9)) || park.Right(l[:9]) {
		t.Error(l[:cap(l)])
	}
}

// TestNotRight is of P11.1: rows of nine and more, and rows in which one may not be, at any place.
func TestNotRight(t *testing.T) {
	for _, l := range wrongRows() {
		if park.Right(l) {
			t.Errorf("%v may not be", l)
		}
	}
	if park.Right(make([]api.Gor, 9)) {
		t.Error("nine may not be")
	}
}

// outcome is what becomes of a goroutine, or why nothing does.
type outcome struct {
	g   api.Gor
	why api.Errno
}

// checkEach holds what becomes of one of each kind, at each place of rows of one to eight, beside any others, which are not touched.
func checkEach(t *testing.T, name string, outcomes map[api.Gor]outcome) {
	t.Helper()
	if len(outcomes) != 4 {
		t.Fatal(outcomes)
	}
	for n := range 9 {
		for _, l := range rows(n) {
			for who := range l {
				if o := outcomes[l[who]]; o.why != api.OK {
					check(t, name, l, who, nil, o.why)
				} else {
					check(t, name, l, who, with(l, who, o.g), api.OK)
				}
			}
		}
	}
}

// TestPark is of P11.1: one that runs, with a permit or without, is parked, or goes on; one that is parked, or done, can't park.
func TestPark(t *testing.T) {
	checkEach(t, "Park", map[api.Gor]outcome{runs: {parked, 0}, permit: {runs, 0}, parked: {why: api.ErrState}, done: {why: api.ErrState}})
}

// TestReady is of P11.2: one that is parked goes on, one that runs gets a permit; one that has one is not told twice, one that is done not at all.
func TestReady(t *testing.T) {
	checkEach(t, "Ready", map[api.Gor]outcome{runs: {permit, 0}, permit: {why: api.ErrTwice}, parked: {runs, 0}, done: {why: api.ErrState}})
}

// TestEnd is of P11.2: one that runs is done, and has no permit then; one that is parked, or done, can't end.
func TestEnd(t *testing.T) {
	checkEach(t, "End", map[api.Gor]outcome{runs: {done, 0}, permit: {done, 0}, parked: {why: api.ErrState}, done: {why: api.ErrState}})
}

// TestAtEdges is of P11.1 and P11.2: what the document names, told one by one.
func TestAtEdges(t *testing.T) {
	l := []api.Gor{runs, permit, parked, done}
	check(t, "Park", l, 0, []api.Gor{parked, permit, parked, done}, api.OK)
	check(t, "Park", l, 1, []api.Gor{runs, runs, parked, done}, api.OK)
	check(t, "Park", l, 2, nil, api.ErrState)
	check(t, "Park", l, 3, nil, api.ErrState)
	check(t, "Ready", l, 0, []api.Gor{permit, permit, parked, done}, api.OK)
	check(t, "Ready", l, 1, nil, api.ErrTwice)
	check(t, "Ready", l, 2, []api.Gor{runs, permit, runs, done}, api.OK)
	check(t, "Ready", l, 3, nil, api.ErrState)
	check(t, "End", l, 0, []api.Gor{done, permit, parked, done}, api.OK)
	check(t, "End", l, 1, []api.Gor{runs, done, parked, done}, api.OK)
	check(t, "End", l, 2, nil, api.ErrState)
	check(t, "End", l, 3, nil, api.ErrState)
	for name := range changes() {
		check(t, name, l, 4, nil, api.ErrRange)
		check(t, name, l, -1, nil, api.ErrRange)
		check(t, name, append(l, parked, parked, parked, parked, runs), 0, nil, api.ErrArg)
	}
	eight := make([]api.Gor, 8)
	for _, who := range []int{0, 7} {
		check(t, "Park", eight, who, with(eight, who, parked), api.OK)
		check(t, "Ready", eight, who, with(eight, who, permit), api.OK)
		check(t, "End", eight, who, with(eight, who, done), api.OK)
	}
}

// TestRunnable is of P11.2: all that run, with a permit or without, and no others, in rows of none to eight; nobody, all, only the first and only the last among them.
func TestRunnable(t *testing.T) {
	checkRunnable(t, nil, nil, api.OK)
	for n := range 9 {
		for mask := range 1 << n {
			var want []int
			for who := range n {
				if mask>>who&1 == 1 {
					want = append(want, who)
				}
			}
			for _, with := range []api.Gor{runs, permit} {
				for _, without := range []api.Gor{parked, done} {
					checkRunnable(t, standing(n, want, []api.Gor{with}, []api.Gor{without}), want, api.OK)
				}
			}
			checkRunnable(t, standing(n, want, []api.Gor{runs, permit}, []api.Gor{parked, done}), want, api.OK)
			checkRunnable(t, standing(n, want, []api.Gor{permit, runs}, []api.Gor{done, parked, parked}), want, api.OK)
		}
	}
}

// standing is n goroutines, of which these are of some kinds, in turn, and the others of others.
func standing(n int, these []int, kinds, others []api.Gor) []api.Gor {
	l := make([]api.Gor, n)
	for i := range l {
		l[i] = others[i%len(others)]
		if slices.Contains(these, i) {
			l[i] = kinds[i%len(kinds)]
		}
	}
	return l
}

// TestRunnableAtEdges is of P11.2: what the document names, told one by one.
func TestRunnableAtEdges(t *testing.T) {
	checkRunnable(t, []api.Gor{}, nil, api.OK)
	checkRunnable(t, []api.Gor{runs}, []int{0}, api.OK)
	checkRunnable(t, []api.Gor{permit}, []int{0}, api.OK)
	checkRunnable(t, []api.Gor{parked}, nil, api.OK)
	checkRunnable(t, []api.Gor{done}, nil, api.OK)
	checkRunnable(t, []api.Gor{runs, parked, done, permit}, []int{0, 3}, api.OK)
	checkRunnable(t, make([]api.Gor, 8), []int{0, 1, 2, 3, 4, 5, 6, 7}, api.OK)
	checkRunnable(t, make([]api.Gor, 9), nil, api.ErrArg)
	checkRunnable(t, with(turning(8, 2, 0), 0, runs), []int{0}, api.OK)
	checkRunnable(t, with(turning(8, 3, 0), 7, permit), []int{7}, api.OK)
}

// TestWrongRows is of P11.1 and P1: each call with goroutines that may not be; also where there is no such goroutine, or where it could not be changed, what comes first is that they may not.
func TestWrongRows(t *testing.T) {
	for _, l := range wrongRows() {
		for name := range changes() {
			for _, who := range []int{0, 1, 4, 7, 8, len(l) - 1, len(l), len(l) + 1, -1, leastInt, mostInt} {
				check(t, name, l, who, nil, api.ErrArg)
			}
		}
		checkRunnable(t, l, nil, api.ErrArg)
	}
}

// TestNoSuch is of P11.1 and P1: there is none below 0, none behind the last one, and none at all where there are none.
func TestNoSuch(t *testing.T) {
	for _, l := range someRows() {
		for name := range changes() {
			for _, who := range []int{len(l), len(l) + 1, 8, 9, 1 << 32, mostInt - 1, mostInt, -1, -2, -len(l) - 1, -1 << 32, leastInt + 1, leastInt} {
				check(t, name, l, who, nil, api.ErrRange)
			}
		}
	}
}

// must is a row after a change that has to be taken.
func must(t *testing.T, name string, l []api.Gor, who int) []api.Gor {
	t.Helper()
	after, e := changes()[name](l, who)
	if e != api.OK {
		t.Fatalf("%s(%v, %d): %d", name, l, who, e)
	}
	return after
}

// TestToldOnce is of P11.3: who parks once and is told once, ahead of that or behind it, goes on as it was, whoever stands beside it, and whoever of those is told between.
func TestToldOnce(t *testing.T) {
	for _, l := range someRows() {
		for who, g := range l {
			if g == runs || g == permit {
				checkRow(t, must(t, "Ready", must(t, "Park", l, who), who), l)
			}
			if g == runs || g == parked {
				checkRow(t, must(t, "Park", must(t, "Ready", l, who), who), l)
			}
			if other := (who + 1) % len(l); other != who && g == runs && l[other] == runs {
				both := must(t, "Ready", must(t, "Park", l, who), other)
				checkRow(t, must(t, "Park", must(t, "Ready", both, who), other), l)
			}
		}
	}
}

func checkRow(t *testing.T, l, want []api.Gor) {
	t.Helper()
	if !slices.Equal(l, want) {
		t.Fatalf("%v, not %v", l, want)
	}
}

// count is what happened to a goroutine: how often it parked, how often it was told, and whether it ended.
type count struct {
	parks, tells int
	ended        bool
}

// standsAt is how a goroutine stands after what happened: it waits while it parked more often than it was told, and what it was told ahead of parking is kept.
func (c count) standsAt() api.Gor {
	switch {
	case c.ended:
		return done
	case c.parks > c.tells:
		return parked
	}
	return api.Gor{Permit: c.tells > c.parks}
}

// next is what happened after one thing more, or why that can't be.
func (c count) next(name string) (count, api.Errno) {
	switch {
	case c.ended, name != "Ready" && c.parks > c.tells:
		return c, api.ErrState
	case name == "Ready" && c.tells > c.parks:
		return c, api.ErrTwice
	case name == "Ready":
		c.tells++
	case name == "Park":
		c.parks++
	default:
		c.ended = true
	}
	return c, api.OK
}

// play is goroutines, and what happened to each of them.
type play struct {
	l      []api.Gor
	counts []count
}

// next is the play after one thing more, of which the goroutines have to tell the same as what happened; what can't be leaves it as it is.
func (p play) next(t *testing.T, name string, who int) play {
	t.Helper()
	c, why := p.counts[who].next(name)
	after, e := changes()[name](p.l, who)
	if e != why {
		t.Fatalf("%s(%v, %d): %d, not %d, after %v", name, p.l, who, e, why, p.counts)
	}
	if e != api.OK {
		return p
	}
	counts := slices.Clone(p.counts)
	counts[who] = c
	var want []api.Gor
	for _, c := range counts {
		want = append(want, c.standsAt())
	}
	checkRow(t, after, want)
	return play{after, counts}
}

// TestInEachOrder is of P11.3: over all orders of parking, telling and ending, of one and of two goroutines, no telling is lost, and none counts twice.
func TestInEachOrder(t *testing.T) {
	var all func(p play, steps int)
	all = func(p play, steps int) {
		if steps == 0 {
			return
		}
		for name := range changes() {
			for who := range p.l {
				all(p.next(t, name, who), steps-1)
			}
		}
	}
	all(play{[]api.Gor{runs}, make([]count, 1)}, 9)
	all(play{[]api.Gor{runs, runs}, make([]count, 2)}, 6)
	all(play{[]api.Gor{permit, parked}, []count{{tells: 1}, {parks: 1}}}, 5)
}

// TestManyTimes is of P11.3: eight that are parked and told again and again, by rules, and end one by one; those that were told as often as they parked run at the end, and the others wait.
func TestManyTimes(t *testing.T) {
	for _, seed := range []int{1, 3, 5, 7, 11} {
		p := play{make([]api.Gor, 8), make([]count, 8)}
		for step := range 4000 {
			name, who := "Park", (step*seed+step*step/9)%8
			switch {
			case step%997 == 996:
				name = "End"
			case (step/3+seed*step*step/5)%2 == 0:
				name = "Ready"
			}
			p = p.next(t, name, who)
		}
		var want []int
		for who, c := range p.counts {
			if min(c.parks, c.tells) < 20 {
				t.Errorf("%d parked and was told too seldom to say anything: %v", who, c)
			}
			if !c.ended && c.parks <= c.tells {
				want = append(want, who)
			}
		}
		checkRunnable(t, p.l, want, api.OK)
	}
}

// TestShared is of rule R4: rows that are made of one don't get in each other's way, nor does a call's answer change when it is asked again.
func TestShared(t *testing.T) {
	l := roomy([]api.Gor{runs, permit, parked, done})
	a, b, c := must(t, "Park", l, 0), must(t, "Ready", l, 0), must(t, "End", l, 0)
	d, e, f := must(t, "Park", a, 1), must(t, "Ready", a, 0), must(t, "End", a, 1)
	again := must(t, "Park", l, 0)
	for i, pair := range [][2][]api.Gor{
		{l, {runs, permit, parked, done}}, {a, {parked, permit, parked, done}}, {b, {permit, permit, parked, done}}, {c, {done, permit, parked, done}},
		{d, {parked, runs, parked, done}}, {e, {runs, permit, parked, done}}, {f, {parked, done, parked, done}}, {again, a},
	} {
		if !slices.Equal(pair[0], pair[1]) {
			t.Errorf("%d: %v, not %v", i, pair[0], pair[1])
		}
	}
}
