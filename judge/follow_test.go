package judge_test

import (
	"fmt"
	"math/big"
	"math/rand"
	"slices"
	"testing"

	"deadbolt/api"
	"deadbolt/judge"
	"deadbolt/run"
)

// gets tells whether something that happened is that somebody got a mutex.
func gets(h api.Happened, mutex int) bool {
	return h.Event.Mutex == mutex && (h.Event.Kind == api.EGot || h.Event.Kind == api.ETry)
}

// gives tells whether it is that somebody gave it back.
func gives(h api.Happened, mutex int) bool {
	return h.Event.Mutex == mutex && h.Event.Kind == api.EGave
}

// over is how many more got a mutex than gave it back.
func over(l []api.Happened, mutex int) int {
	n := 0
	for _, h := range l {
		if gets(h, mutex) {
			n++
		}
		if gives(h, mutex) {
			n--
		}
	}
	return n
}

// isWrong works out by counts whether one is wrong, if none of those ahead is.
func isWrong(ahead []api.Happened, h api.Happened) bool {
	e := h.Event
	if e.Who < 0 || e.Who > 7 || e.Mutex < 0 || e.Mutex > 3 || e.Kind < 0 || e.Kind > 4 {
		return true
	}
	for _, x := range ahead {
		if x.Event.Kind == api.EFault {
			return true
		}
	}
	if n := len(ahead); n > 0 && (h.At < ahead[n-1].At || h.Now < ahead[n-1].Now) {
		return true
	}
	switch over(ahead, e.Mutex) {
	case 0:
		return e.Kind == api.EGave
	case 1:
		return e.Kind == api.EGot || e.Kind == api.ETry || e.Kind == api.EFault
	}
	panic("held by more than one, or by less than nobody")
}

// firstWrong works out which one is wrong.
func firstWrong(l []api.Happened) int {
	for at, h := range l {
		if isWrong(l[:at], h) {
			return at
		}
	}
	return -1
}

// lastHolder works out from the end who holds a mutex.
func lastHolder(l []api.Happened, mutex int) int {
	for at := len(l) - 1; at >= 0; at-- {
		if gives(l[at], mutex) {
			return -1
		}
		if gets(l[at], mutex) {
			return l[at].Event.Who
		}
	}
	return -1
}

// heldFor works out without bounds how long a mutex was held that somebody got at a place.
func heldFor(l []api.Happened, at, mutex int) *big.Int {
	till := slices.IndexFunc(l[at:], func(h api.Happened) bool { return gives(h, mutex) })
	last := l[len(l)-1]
	if till >= 0 {
		last = l[at+till]
	}
	return new(big.Int).Sub(big.NewInt(int64(last.Now)), big.NewInt(int64(l[at].Now)))
}

// toldOf works out what is to be told of happenings of which none is wrong.
func toldOf(l []api.Happened) tells {
	var want tells
	for mutex := range 4 {
		want.held[mutex] = lastHolder(l, mutex)
		most := new(big.Int)
		for at, h := range l {
			if !gets(h, mutex) {
				continue
			}
			want.order[mutex] = append(want.order[mutex], h.Event.Who)
			if n := heldFor(l, at, mutex); n.Cmp(most) > 0 {
				most = n
			}
		}
		want.long[mutex] = mostInt
		if most.IsInt64() {
			want.long[mutex] = int(most.Int64())
		}
	}
	return want
}

// check holds all that is answered of any happenings.
func check(t *testing.T, l []api.Happened) {
	t.Helper()
	if at := firstWrong(l); at >= 0 {
		checkWrong(t, fmt.Sprint(l), l, at)
		return
	}
	checkTells(t, l, toldOf(l))
}

// TestAllShort is of P18.1 and P18.2: all of up to five events of two mutexes, each a tick behind the one ahead, but that it comes to nothing further behind the first wrong one.
func TestAllShort(t *testing.T) {
	n := 0
	var grow func(l []api.Happened)
	grow = func(l []api.Happened) {
		n++
		check(t, l)
		if len(l) == 5 || firstWrong(l) >= 0 {
			return
		}
		for kind := range 5 {
			for _, mutex := range []int{1, 3} {
				grow(append(l[:len(l):len(l)], is(len(l), 2*len(l), (3*len(l)+kind)%8, kind, mutex)))
			}
		}
	}
	grow(nil)
	if n < 5000 {
		t.Errorf("but %d", n)
	}
}

// TestAllWithinThree is of P18.1 and P18.2: all of three events of one mutex, of few times and few places, whether wrong or not.
func TestAllWithinThree(t *testing.T) {
	var few []api.Happened
	for kind := range 5 {
		for now := range 3 {
			few = append(few, is(0, now, kind%2, kind, 0), is(1, now, 1-kind%2, kind, 0))
		}
	}
	for _, one := range few {
		for _, two := range few {
			for _, three := range few {
				l := []api.Happened{one, two, three}
				if n := judge.Wrong(l); n != firstWrong(l) {
					t.Fatalf("Wrong = %d, not %d: %v", n, firstWrong(l), l)
				}
				if n, e := judge.Long(l, 0); e == api.OK && n != toldOf(l).long[0] {
					t.Fatalf("Long = %d: %v", n, l)
				}
			}
		}
	}
}

// anyRight is so many happenings of which none is wrong, at times of some length.
func anyRight(r *rand.Rand, n, far int) []api.Happened {
	var l []api.Happened
	at, now := r.Intn(5)-2, r.Intn(5)-2
	for len(l) < n {
		at, now = at+r.Intn(3), max(now, now+r.Intn(3)/2*r.Intn(far)) // no time is behind the greatest int
		h := is(at, now, r.Intn(8), r.Intn(4), r.Intn(4))
		if !isWrong(l, h) {
			l = append(l, h)
		}
	}
	return l
}

// wild is a number of any size.
func wild(r *rand.Rand) int {
	some := []int{-2, -1, 0, 1, 2, 3, 4, 5, 7, 8, 9, mostInt, leastInt, mostInt - 1, leastInt + 1, mostTime, 1 << r.Intn(63), -1 << r.Intn(64), int(r.Uint64())}
	return some[r.Intn(len(some))]
}

// spoiled is the same, but for one number of one of them, or that one is left out, told twice, or behind its next one.
func spoiled(r *rand.Rand, l []api.Happened) []api.Happened {
	l = slices.Clone(l)
	at := r.Intn(len(l))
	switch r.Intn(9) {
	case 0:
		l[at].At += r.Intn(7) - 3
	case 1:
		l[at].Now += r.Intn(7) - 3
	case 2:
		l[at].Event.Who = wild(r)
	case 3:
		l[at].Event.Mutex = wild(r)
	case 4:
		l[at].Event.Kind = wild(r)
	case 5:
		l[at].At, l[at].Now = wild(r), wild(r)
	case 6:
		l = slices.Delete(l, at, at+1)
	case 7:
		l = slices.Insert(l, at, l[at])
	case 8:
		next := (at + 1) % len(l)
		l[at], l[next] = l[next], l[at]
	}
	return l
}

// TestAny is of P18.1 and P18.2: long ones of which none is wrong, and such as were spoiled at some places.
func TestAny(t *testing.T) {
	r := rand.New(rand.NewSource(18))
	right, wrong := 0, 0
	for range 3000 {
		l := anyRight(r, 1+r.Intn(60), []int{1, 2, 100, 1 << 40}[r.Intn(4)])
		check(t, l)
		for range 1 + r.Intn(3) {
			if len(l) > 0 {
				l = spoiled(r, l)
			}
			check(t, l)
			if firstWrong(l) < 0 {
				right++
			} else {
				wrong++
			}
		}
	}
	if right < 500 || wrong < 500 {
		t.Errorf("%d right, %d wrong", right, wrong)
	}
}

// TestFirstParts is of P18.3 and P18.1: what is not wrong is not so in its first parts; of what is, just those parts are that have its first wrong one, which is told of each.
func TestFirstParts(t *testing.T) {
	r := rand.New(rand.NewSource(81))
	for range 2000 {
		l := spoiled(r, anyRight(r, 1+r.Intn(40), 9))
		at := judge.Wrong(l)
		for n := range len(l) + 1 {
			want := at
			if n <= at {
				want = -1
			}
			if got := judge.Wrong(l[:n]); got != want {
				t.Fatalf("Wrong = %d, but of the first %d %d: %v", at, n, got, l)
			}
		}
		if at < 0 {
			continue
		}
		for range 5 {
			more := append(l[:at+1:at+1], is(wild(r), wild(r), wild(r), wild(r), wild(r)), is(wild(r), wild(r), wild(r), wild(r), wild(r)))
			checkWrong(t, "whatever is behind it", more, at)
		}
	}
}

// TestNeverTwice is of P18.3: of what is not wrong, between each two that get a mutex one gives it back.
func TestNeverTwice(t *testing.T) {
	r := rand.New(rand.NewSource(6))
	for range 20000 {
		var l []api.Happened
		for range 2 + r.Intn(7) {
			l = append(l, is(0, 0, r.Intn(8), r.Intn(5), r.Intn(2)))
		}
		if judge.Wrong(l) >= 0 {
			continue
		}
		for mutex := range 4 {
			for n := range len(l) + 1 {
				if x := over(l[:n], mutex); x < 0 || x > 1 {
					t.Fatalf("mutex %d is held %d times behind %d: %v", mutex, x, n, l)
				}
			}
		}
	}
}

// anyPrograms are some that may be, most of them of few mutexes.
func anyPrograms(r *rand.Rand) [][]api.Act {
	l := make([][]api.Act, r.Intn(9))
	for i := range l {
		for range r.Intn(12) {
			kinds, ns := []int{api.ALock, api.ALock, api.AUnlock, api.AUnlock, api.ATry, api.AWork}, []int{0, 0, 0, 1, 2, 3}
			l[i] = append(l[i], api.Act{Kind: kinds[r.Intn(len(kinds))], N: ns[r.Intn(len(ns))]})
		}
	}
	return l
}

// anyTidies are some that lock a mutex, work, and give it back, again and again.
func anyTidies(r *rand.Rand, mutexes int) [][]api.Act {
	l := make([][]api.Act, 1+r.Intn(8))
	for i := range l {
		for range r.Intn(8) {
			m := r.Intn(mutexes)
			l[i] = append(l[i], api.Act{Kind: api.ALock, N: m}, api.Act{Kind: api.AWork, N: r.Intn(6)}, api.Act{Kind: api.AUnlock, N: m})
		}
	}
	return l
}

// anyScript is one in which one often steps for a while, and time goes on by a little, by about a millisecond, or by much.
func anyScript(r *rand.Rand, n int) []int {
	var l []int
	for len(l) < n {
		if r.Intn(6) == 0 {
			l = append(l, []int{-1, -3, -1000000, -1000001, -mostTime / 4, leastInt}[r.Intn(6)])
			continue
		}
		l = append(l, slices.Repeat([]int{r.Intn(8)}, []int{1, 1, 2, 5, 12}[r.Intn(5)])...)
	}
	return l
}

// TestPlayed is of P18.3 and P2: what a script plays of several programs is never wrong; who holds a mutex in the end is whom the world's word is of, and what is told is what happened.
func TestPlayed(t *testing.T) {
	r := rand.New(rand.NewSource(2))
	kinds, most := map[int]int{}, 0
	for i := range 3000 {
		progs := anyPrograms(r)
		if i%2 == 0 {
			progs = anyTidies(r, 1+r.Intn(4))
		}
		w, l, e := run.Play(progs, anyScript(r, r.Intn(400)))
		if e != api.OK {
			t.Fatal(progs, e)
		}
		if n := judge.Wrong(l); n != -1 {
			t.Fatalf("%v: %d is wrong: %v", progs, n, l)
		}
		checkTells(t, l, toldOf(l))
		who, e := judge.Held(l)
		for m, x := range w.Mutexes {
			if e != api.OK || x.Word%2 == 1 != (who[m] >= 0) {
				t.Fatalf("%v: %v, %d, but %v", progs, who, e, w.Mutexes)
			}
		}
		for _, h := range l {
			kinds[h.Event.Kind]++
		}
		most = max(most, len(l))
	}
	if len(kinds) != 5 || most < 50 {
		t.Errorf("%v, %d at most", kinds, most)
	}
}

// TestPlayedByTurns is of P18.3: tidy programs whose turns come round and round hold nothing in the end, and each got what it locks.
func TestPlayedByTurns(t *testing.T) {
	r := rand.New(rand.NewSource(7))
	for range 60 {
		progs := anyTidies(r, 1+r.Intn(3))[:1]
		progs = slices.Repeat(progs, 1+r.Intn(4))
		script, e := run.Turns(progs, 2000, 1, []int{1, 1000, 300000, 1000001}[r.Intn(4)])
		if e != api.OK {
			t.Fatal(e)
		}
		w, l, _ := run.Play(progs, script)
		if is, _ := run.Done(w); !is {
			t.Fatal(progs, w)
		}
		if who, e := judge.Held(l); e != api.OK || !slices.Equal(who, []int{-1, -1, -1, -1}) {
			t.Fatal(progs, who, e)
		}
		for m := range 4 {
			locks := 0
			for _, a := range progs[0] {
				if a == (api.Act{Kind: api.ALock, N: m}) {
					locks++
				}
			}
			who, e := judge.Order(l, m)
			slices.Sort(who)
			var want []int
			for one := range progs {
				want = append(want, slices.Repeat([]int{one}, locks)...)
			}
			if e != api.OK || !slices.Equal(who, want) {
				t.Fatal(progs, m, who, e)
			}
		}
	}
}

// TestPlayedAndSpoiled is of P18.1 and P18.3: what was played, but with one that got a mutex told again, is wrong there.
func TestPlayedAndSpoiled(t *testing.T) {
	r := rand.New(rand.NewSource(12))
	n := 0
	for range 300 {
		_, l, _ := run.Play(anyTidies(r, 2), anyScript(r, 300))
		for at, h := range l {
			if h.Event.Kind == api.EGot || h.Event.Kind == api.EGave {
				checkWrong(t, "told twice", slices.Insert(slices.Clone(l), at, h), at+1)
				n++
			}
		}
	}
	if n < 1000 {
		t.Errorf("but %d", n)
	}
}

// TestMany is of P18.1, P18.2 and P1: there is no bound on how many there are.
func TestMany(t *testing.T) {
	const many = 300000
	l := make([]api.Happened, 0, many+1)
	for i := range many / 2 {
		l = append(l, is(i, 3*i, i%8, i%2, i/2%4), is(i, 3*i+2, i%5, api.EGave, i/2%4))
	}
	if n := judge.Wrong(l); n != -1 {
		t.Fatal(n)
	}
	who, e := judge.Order(l, 3)
	if e != api.OK || len(who) != many/8 || who[0] != 6 || who[1] != 7 || who[2] != 6 {
		t.Error(len(who), e)
	}
	if n, e := judge.Long(l, 3); n != 2 || e != api.OK {
		t.Error(n, e)
	}
	l = append(l, is(many, 3*many, 0, api.EGave, 0))
	if n := judge.Wrong(l); n != many {
		t.Error(n)
	}
}

// TestUnchanged is of rule R4: no call changes what it was handed, nor what lies behind its end, which is not asked either.
func TestUnchanged(t *testing.T) {
	r := rand.New(rand.NewSource(4))
	behind := []api.Happened{is(77, 77, 77, 77, 77), is(-1, -1, 0, api.EGot, 0), {}}
	for i := range 1000 {
		l := anyRight(r, 1+r.Intn(30), 9)
		if i%2 == 0 {
			l = spoiled(r, l)
		}
		room := slices.Concat(l, behind)
		was := slices.Clone(room)
		check(t, room[:len(l)])
		if !slices.Equal(room, was) {
			t.Fatalf("%v became %v", was, room)
		}
	}
}

// TestAnswersAreNew is of rule R1: an answer is the same when it is asked again, whatever became of the first one.
func TestAnswersAreNew(t *testing.T) {
	l := row("G40", "T51", "G62", "V70", "T73", "V02", "G10")
	for range 3 {
		checkTells(t, l, toldOf(l))
		held, _ := judge.Held(l)
		held = held[:cap(held)]
		for i := range held {
			held[i] = 99
		}
		for m := range 4 {
			who, _ := judge.Order(l, m)
			who = who[:cap(who)]
			for i := range who {
				who[i] = 99
			}
		}
		checkTells(t, l, toldOf(l))
	}
}

// answered is what all calls answer, as a text, or that one panicked.
func answered(l []api.Happened, mutex int) (text string) {
	defer func() {
		if wrong := recover(); wrong != nil {
			text = fmt.Sprint("panic: ", wrong)
		}
	}()
	at := judge.Wrong(l)
	held, e := judge.Held(l)
	order, e1 := judge.Order(l, mutex)
	long, e2 := judge.Long(l, mutex)
	return fmt.Sprint(at, held, e, order, e1, long, e2)
}

// wanted is what they are to answer.
func wanted(l []api.Happened, mutex int) string {
	none := []int{}
	if at := firstWrong(l); at >= 0 {
		return fmt.Sprint(at, none, api.ErrArg, none, api.ErrArg, 0, api.ErrArg)
	}
	x := toldOf(l)
	if !anyMutex(mutex) {
		return fmt.Sprint(-1, x.held, api.OK, none, api.ErrRange, 0, api.ErrRange)
	}
	return fmt.Sprint(-1, x.held, api.OK, x.order[mutex], api.OK, x.long[mutex], api.OK)
}

// TestEnds is of P1: no call panics, whatever it is handed, and each answers the same each time.
func TestEnds(t *testing.T) {
	r := rand.New(rand.NewSource(9))
	errs := map[string]int{}
	for range 30000 {
		var l []api.Happened
		for range r.Intn(4) {
			l = append(l, is(wild(r), wild(r), wild(r), wild(r), wild(r)))
		}
		if r.Intn(2) == 0 {
			l = spoiled(r, anyRight(r, 1+r.Intn(5), 1<<r.Intn(62)))
		}
		m := wild(r)
		text := answered(l, m)
		if again := answered(l, m); text != again || text != wanted(l, m) {
			t.Fatalf("%v, %d: %s, then %s, not %s", l, m, text, again, wanted(l, m))
		}
		_, e := judge.Long(l, m)
		errs[fmt.Sprint(e)]++
	}
	if errs["0"] < 500 || errs["1"] < 500 || errs["3"] < 500 {
		t.Error(errs)
	}
}
