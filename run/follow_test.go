package run_test

import (
	"fmt"
	"math/rand"
	"reflect"
	"slices"
	"testing"

	"deadbolt/api"
	"deadbolt/machine"
	"deadbolt/prog"
	"deadbolt/run"
)

// pick is one of some numbers.
func pick(r *rand.Rand, l ...int) int { return l[r.Intn(len(l))] }

// anyPrograms are some that may be, most of them of few mutexes.
func anyPrograms(r *rand.Rand) [][]api.Act {
	l := make([][]api.Act, r.Intn(9))
	for i := range l {
		for range r.Intn(9) {
			a := api.Act{Kind: pick(r, api.ALock, api.ALock, api.AUnlock, api.AUnlock, api.ATry, api.AWork), N: pick(r, 0, 0, 0, 1, 3)}
			l[i] = append(l[i], a)
		}
	}
	return l
}

// anyTidies are some tidy programs, in each so many locks at most, and some work behind each act.
func anyTidies(r *rand.Rand, programs, locks, mutexes int) [][]api.Act {
	l := make([][]api.Act, 1+r.Intn(programs))
	for i := range l {
		for range r.Intn(locks + 1) {
			m := r.Intn(mutexes)
			l[i] = append(append(l[i], api.Act{Kind: api.ALock, N: m}), anyWork(r)...)
			l[i] = append(append(l[i], api.Act{Kind: api.AUnlock, N: m}), anyWork(r)...)
		}
	}
	return l
}

// anyWork is work of at most 5 steps, in one act or in some.
func anyWork(r *rand.Rand) []api.Act {
	var l []api.Act
	for left := r.Intn(6); left > 0; {
		n := r.Intn(left + 1)
		l = append(l, api.Act{Kind: api.AWork, N: n})
		left -= max(n, 1)
	}
	return l
}

// anyScript is one of so many entries, in which one often steps for a while, and time goes on by a little, by more than a millisecond, or by more than there is.
func anyScript(r *rand.Rand, n int) []int {
	var l []int
	for len(l) < n {
		if r.Intn(6) == 0 {
			l = append(l, pick(r, -1, -3, -thresh, -thresh-1, -mostTime/4, -mostTime, leastInt))
			continue
		}
		who := pick(r, r.Intn(9), r.Intn(9), r.Intn(9), 15, 16+r.Intn(9), mostInt-r.Intn(16))
		l = append(l, slices.Repeat([]int{who}, pick(r, 1, 1, 2, 5, 12))...)
	}
	return l[:n]
}

// anyWorld is one that comes of a new one, at any time, or one of which some numbers were changed, but so that it may be.
func anyWorld(r *rand.Rand) api.World {
	progs := anyPrograms(r)
	if r.Intn(2) == 0 {
		progs = anyTidies(r, 8, 5, 2)
	}
	w, _, e := run.Play(progs, anyScript(r, r.Intn(80)))
	if e != api.OK {
		panic("no world")
	}
	w.Now = pick(r, w.Now, 0, mostTime-3, mostTime-thresh)
	if r.Intn(2) == 0 {
		return w
	}
	at := numbers(reflect.ValueOf(&w).Elem())
	for range 40 {
		x := at[r.Intn(len(at))]
		was := x.Int()
		x.SetInt(int64(pick(r, 0, 1, 2, 7, 8, 9, 11, 13, 16, -1, 1<<31-1, 1<<32-1)))
		if !machine.Right(w) {
			x.SetInt(was)
		}
	}
	return w
}

// TestGo is of P17.1: worlds of all kinds go on by scripts of all kinds as by the machine's steps and ticks, one after the other.
func TestGo(t *testing.T) {
	r := rand.New(rand.NewSource(17))
	kinds, stops := map[int]int{}, map[api.Errno]int{}
	for range 3000 {
		w, l := anyWorld(r), anyScript(r, r.Intn(120))
		want, all := played(t, w, l)
		checkGo(t, w, l, want, all)
		for _, h := range all {
			kinds[h.Event.Kind]++
		}
		stops[want.Stop]++
	}
	if len(kinds) != 5 || len(stops) != 3 {
		t.Errorf("events %v, stops %v", kinds, stops)
	}
}

// TestPlay is of P17.1: programs of all kinds are played from their new world on.
func TestPlay(t *testing.T) {
	r := rand.New(rand.NewSource(71))
	for range 2000 {
		progs, l := anyPrograms(r), anyScript(r, r.Intn(120))
		w, e := machine.New(progs)
		if e != api.OK {
			t.Fatal(progs, e)
		}
		want, all := played(t, w, l)
		n, got, e := run.Play(progs, l)
		if e != api.OK || !same(n, want) || !slices.Equal(got, all) {
			t.Fatalf("Play of %v by %v:\n%v, %v, %d, not\n%v, %v", progs, l, n, got, e, want, all)
		}
	}
}

// later is what happened in a second part, its places counted on from the first.
func later(all []api.Happened, by int) []api.Happened {
	all = slices.Clone(all)
	for i := range all {
		all[i].At += by
	}
	return all
}

// checkParted holds that a script in two parts is played as at once.
func checkParted(t *testing.T, w api.World, l []int, at int) {
	t.Helper()
	whole, all, e := run.Go(w, l)
	first, one, e1 := run.Go(w, l[:at])
	second, two, e2 := run.Go(first, l[at:])
	if e != api.OK || e1 != api.OK || e2 != api.OK || !same(second, whole) || !slices.Equal(slices.Concat(one, later(two, at)), all) {
		t.Fatalf("%v by %v, parted at %d:\n%v, %v, %v, not\n%v, %v", w, l, at, second, one, two, whole, all)
	}
}

// TestParted is of P17.3: wherever a script is parted, its ends among them, and in more parts than two.
func TestParted(t *testing.T) {
	r := rand.New(rand.NewSource(3))
	for range 100 {
		w, l := anyWorld(r), anyScript(r, r.Intn(60))
		for at := range len(l) + 1 {
			checkParted(t, w, l, at)
		}
	}
	long := anyScript(r, mostScript)
	w, e := machine.New(anyTidies(r, 8, 5, 2))
	if e != api.OK {
		t.Fatal(e)
	}
	for _, at := range []int{0, 1, 100, 5000, mostScript / 2, mostScript - 1, mostScript} {
		checkParted(t, w, long, at)
	}
	whole, all, _ := run.Go(w, long[:500])
	var parts []api.Happened
	for at, v := range long[:500] {
		n, more, _ := run.Go(w, []int{v})
		parts, w = append(parts, later(more, at)...), n
	}
	if !same(w, whole) || !slices.Equal(parts, all) {
		t.Errorf("entry by entry:\n%v, %v, not\n%v, %v", w, parts, whole, all)
	}
}

// lockings is how often each client locks each mutex.
func lockings(progs [][]api.Act) [8][4]int {
	var n [8][4]int
	for who, acts := range progs {
		for _, a := range acts {
			if a.Kind == api.ALock {
				n[who][a.N]++
			}
		}
	}
	return n
}

// checkAllGot holds that all is done, each lock was got and given back once, one at a time, and nothing is left.
func checkAllGot(t *testing.T, progs [][]api.Act, w api.World, all []api.Happened) {
	t.Helper()
	var got, gave [8][4]int
	holder := [4]int{-1, -1, -1, -1}
	for _, h := range all {
		who, m := h.Event.Who, h.Event.Mutex
		switch {
		case h.Event.Kind == api.EGot && holder[m] == -1:
			got[who][m]++
			holder[m] = who
		case h.Event.Kind == api.EGave && holder[m] == who:
			gave[who][m]++
			holder[m] = -1
		default:
			t.Fatalf("%v: %v of %v", progs, h, all)
		}
	}
	if want := lockings(progs); got != want || gave != want {
		t.Fatalf("%v: %v got, %v given back", progs, got, gave)
	}
	for m, x := range w.Mutexes {
		if x.Word != 0 || x.Line.Next != x.Line.Serve || len(w.Table) != 0 {
			t.Fatalf("%v leaves of %d: %v", progs, m, w)
		}
	}
}

// inTheEnd holds that tidy programs are all done within 2000 rounds of one step each; it tells within how many, to the next 20.
func inTheEnd(t *testing.T, progs [][]api.Act, d int) int {
	t.Helper()
	w, e := machine.New(progs)
	l, e1 := run.Turns(progs, 20, 1, d)
	if e != api.OK || e1 != api.OK {
		t.Fatal(progs, e, e1)
	}
	var all []api.Happened
	for rounds := 0; rounds <= 2000; rounds += 20 {
		if is, e := run.Done(w); is && e == api.OK {
			checkAllGot(t, progs, w, all)
			return rounds
		}
		n, more, e := run.Go(w, l)
		if e != api.OK {
			t.Fatal(progs, e)
		}
		all, w = append(all, later(more, rounds/20*len(l))...), n
	}
	t.Fatalf("%v with ticks of %d are not done: %v", progs, d, w)
	return 0
}

// ticks are some by which time goes on: a little, nearly till somebody is late, at once, and more than there is for all rounds.
func ticks() []int {
	return []int{1, 1000, thresh / 20, thresh / 3, thresh, thresh + 1, mostTime / 2000, mostTime/2 + 1, mostTime}
}

// alike are so many programs that do the same: of so many locks, with so much work while they hold it, and so much else.
func alike(programs, locks, within, behind, mutexes int) [][]api.Act {
	var acts []api.Act
	for m := range locks {
		acts = append(acts, api.Act{Kind: api.ALock, N: m % mutexes})
		if within > 0 {
			acts = append(acts, api.Act{Kind: api.AWork, N: within})
		}
		acts = append(acts, api.Act{Kind: api.AUnlock, N: m % mutexes})
		if behind > 0 {
			acts = append(acts, api.Act{Kind: api.AWork, N: behind})
		}
	}
	return slices.Repeat([][]api.Act{acts}, programs)
}

// TestInTheEnd is of P17.3 and P5: tidy programs that do the same, and such as do not, of four at most, are all done in the end.
func TestInTheEnd(t *testing.T) {
	most := 0
	for within := range 6 {
		for behind := range 6 {
			for _, d := range ticks() {
				for _, mutexes := range []int{1, 2, 3} {
					most = max(most, inTheEnd(t, alike(4, 3, within, behind, mutexes), d))
				}
				most = max(most, inTheEnd(t, alike(2, 3, within, behind, 1), d), inTheEnd(t, alike(3, 3, within, behind, 1), d))
			}
		}
	}
	r := rand.New(rand.NewSource(5))
	for range 1500 {
		progs := anyTidies(r, 4, 3, 1+r.Intn(4))
		if slices.ContainsFunc(progs, func(l []api.Act) bool { return !prog.Tidy(l) }) {
			t.Fatal(progs)
		}
		most = max(most, inTheEnd(t, progs, pick(r, ticks()...)))
	}
	if most < 100 {
		t.Errorf("all are done within %d rounds: that is not much", most)
	}
}

// starves tells whether mutex 0 starves behind some entry.
func starves(w api.World, l []int) bool {
	for _, v := range l {
		w, _, _ = run.Go(w, []int{v})
		if w.Mutexes[0].Word/api.Starving%2 == 1 {
			return true
		}
	}
	return false
}

// TestInTheEndThoughItStarves is of P17.3 and P5: tidy programs, one without acts among them, whose turns are such that a mutex is handed on.
func TestInTheEndThoughItStarves(t *testing.T) {
	for _, text := range []string{
		"lock 0; work 3; unlock 0; lock 0; work 2; unlock 0; work 5; lock 0; work 5; unlock 0; work 3\n\nlock 0; work 4; unlock 0; work 2; lock 0; work 5; unlock 0; work 1\nlock 0; work 0; unlock 0; work 2\n",
		"lock 0; work 3; unlock 0; work 3; lock 0; work 4; unlock 0; work 2\nlock 0; work 2; unlock 0; work 2; lock 0; work 4; unlock 0; work 2; lock 0; work 2; unlock 0; work 5\nlock 0; work 4; unlock 0; work 5; lock 0; work 3; unlock 0; work 3\nlock 0; work 4; unlock 0; work 1; lock 0; work 2; unlock 0; work 3\n",
	} {
		progs := programs(text)
		l, _ := run.Turns(progs, 200, 1, thresh+1)
		if !starves(start(text), l) {
			t.Errorf("%q: nobody starves", text)
		}
		inTheEnd(t, progs, thresh+1)
	}
}

// TestAllRounds is of P17.3: the script of all 2000 rounds, played at once.
func TestAllRounds(t *testing.T) {
	for _, d := range ticks() {
		progs := alike(4, 3, 5, 5, 1)
		l, e := run.Turns(progs, 2000, 1, d)
		if e != api.OK || len(l) != 10000 {
			t.Fatal(len(l), e)
		}
		w, all, e := run.Play(progs, l)
		is, e1 := run.Done(w)
		if e != api.OK || e1 != api.OK || !is {
			t.Fatal(w, e, e1)
		}
		checkAllGot(t, progs, w, all)
	}
}

// roomy is a list with room behind its end, in which something stands.
func roomy[A any](l []A, behind A) ([]A, []A) {
	whole := append(slices.Clone(l), behind, behind, behind)
	return whole[:len(l)], whole
}

// TestUnchanged is of P17.1, P17.2 and P1: what is handed in, and what stands behind its ends, is as it was.
func TestUnchanged(t *testing.T) {
	r := rand.New(rand.NewSource(4))
	for range 300 {
		w := anyWorld(r)
		var wholes []any
		for i, acts := range w.Progs {
			short, whole := roomy(acts, api.Act{Kind: 77, N: 77})
			w.Progs[i], wholes = short, append(wholes, whole)
		}
		for i, s := range w.Table {
			short, whole := roomy(s.Line, 77)
			w.Table[i].Line, wholes = short, append(wholes, whole)
		}
		progs, allProgs := roomy(w.Progs, []api.Act{{Kind: 77}})
		clients, allClients := roomy(w.Clients, api.Client{Act: 77})
		mutexes, allMutexes := roomy(w.Mutexes, api.Mutex{Word: 77})
		table, allTable := roomy(w.Table, api.Spot{Addr: 77, Line: []int{77}})
		w.Progs, w.Clients, w.Mutexes, w.Table = progs, clients, mutexes, table
		l, allOfL := roomy(anyScript(r, r.Intn(90)), 77)
		wholes = append(wholes, allProgs, allClients, allMutexes, allTable, allOfL)
		was := fmt.Sprint(wholes)
		run.Go(w, l)
		run.Play(w.Progs, l)
		run.Turns(w.Progs, 3, 2, 1)
		run.Done(w)
		if is := fmt.Sprint(wholes); is != was {
			t.Fatalf("was changed:\n%v\n%v", is, was)
		}
	}
}

// TestAnswersAreNew is of P17.1 and P17.2: what is written over an answer changes neither what was handed in nor another answer, be the script empty, or the world one that stopped.
func TestAnswersAreNew(t *testing.T) {
	for _, l := range [][]int{nil, {}, {9}, {4, 0}, {-mostTime}, {-1}, {1, 0, 2, 4, -5}} {
		for _, stop := range []api.Errno{api.OK, api.ErrFault} {
			w := rich()
			w.Stop = stop
			was := fmt.Sprint(w)
			n, _, _ := run.Go(w, l)
			other, _, _ := run.Go(w, l)
			text := fmt.Sprint(other)
			spoilWorld(n)
			if fmt.Sprint(w) != was || fmt.Sprint(other) != text {
				t.Errorf("Go by %v: %v, %v", l, w, other)
			}
			n, _, _ = run.Play(w.Progs, l)
			spoilWorld(n)
			if fmt.Sprint(w) != was {
				t.Errorf("Play by %v: %v", l, w)
			}
		}
	}
	acts := programs("lock 0; unlock 0\n")[0]
	w, _, _ := run.Play([][]api.Act{acts, acts}, nil)
	spoil(w.Progs[0])
	if !slices.Equal(w.Progs[1], acts) {
		t.Error("two programs of an answer share a list")
	}
	one, _ := run.Turns(make([][]api.Act, 2), 2, 1, 1)
	two, _ := run.Turns(make([][]api.Act, 2), 2, 1, 1)
	spoil(one)
	if !slices.Equal(two, []int{0, 1, -1, 0, 1, -1}) {
		t.Error(two)
	}
}

// wild is a number of any size.
func wild(r *rand.Rand) int {
	return pick(r, 0, 1, 2, 3, 8, 15, 16, 64, mostScript, mostTime, mostInt, -1, -2, -8, leastInt, mostInt-1, leastInt+1, 1<<r.Intn(63), -1<<r.Intn(64)) + r.Intn(3) - 1
}

// upset writes wild numbers over some of a world, and may cut its lists.
func upset(r *rand.Rand, w *api.World) {
	at := numbers(reflect.ValueOf(w).Elem())
	for range r.Intn(4) {
		at[r.Intn(len(at))].SetInt(int64(wild(r)))
	}
	switch r.Intn(9) {
	case 0:
		w.Clients = w.Clients[:r.Intn(len(w.Clients)+1)]
	case 1:
		w.Mutexes = w.Mutexes[:r.Intn(len(w.Mutexes)+1)]
	case 2:
		w.Progs = w.Progs[:r.Intn(len(w.Progs)+1)]
	}
}

// wildScript is any numbers, now and then more than may be.
func wildScript(r *rand.Rand) []int {
	l := make([]int, r.Intn(40))
	if r.Intn(20) == 0 {
		l = make([]int, mostScript+1+r.Intn(3))
	}
	for i := range l {
		l[i] = wild(r)
	}
	return l
}

// answered is what a call answers, as a text, or that it panicked.
func answered(call func() []any) (text string) {
	defer func() {
		if wrong := recover(); wrong != nil {
			text = fmt.Sprint("panic: ", wrong)
		}
	}()
	return fmt.Sprint(call()...)
}

// TestEnds is of P1, P17.1 and P17.2: no call panics, whatever it is handed; what it answers is the same each time, and what stands beside an error is nothing; each error is the one that comes first.
func TestEnds(t *testing.T) {
	r := rand.New(rand.NewSource(9))
	errs := map[string]int{}
	check := func(name string, why api.Errno, call func() []any) {
		t.Helper()
		text := answered(call)
		nothing := fmt.Sprint(api.World{}, []int{}, why)
		if name == "Turns" {
			nothing = fmt.Sprint([]int{}, why)
		}
		if name == "Done" {
			nothing = fmt.Sprint(false, why)
		}
		if again := answered(call); text != again || why != api.OK && text != nothing || why == api.OK && text[len(text)-1] != '0' {
			t.Fatalf("%s: %s, and then %s; %d", name, text, again, why)
		}
		errs[fmt.Sprint(name, why)]++
	}
	for range 5000 {
		w, l := anyWorld(r), wildScript(r)
		upset(r, &w)
		rounds, each, d := wild(r), wild(r), wild(r)
		if r.Intn(2) == 0 {
			rounds, each, d = 1+r.Intn(300), 1+r.Intn(30), 1+r.Intn(thresh)
		}
		world, worlds, progs, script := why(!machine.Right(w), api.ErrArg), api.OK, api.OK, api.OK
		worlds = first(why(len(l) > mostScript, api.ErrSize), world)
		progs = first(why(len(l) > mostScript, api.ErrSize), why(!prog.Right(w.Progs), api.ErrArg))
		big := rounds > mostScript || each > mostScript || rounds*(len(w.Progs)*each+1) > mostScript
		script = first(why(!prog.Right(w.Progs) || rounds < 1 || each < 1 || d < 1 || d > mostTime, api.ErrArg), why(big, api.ErrSize))
		check("Go", worlds, func() []any { n, all, e := run.Go(w, l); return []any{n, all, e} })
		check("Play", progs, func() []any { n, all, e := run.Play(w.Progs, l); return []any{n, all, e} })
		check("Turns", script, func() []any { l, e := run.Turns(w.Progs, rounds, each, d); return []any{l, e} })
		check("Done", world, func() []any { is, e := run.Done(w); return []any{is, e} })
	}
	for _, x := range []string{"Go0", "Go1", "Go2", "Play0", "Play1", "Play2", "Turns0", "Turns1", "Turns2", "Done0", "Done1"} {
		if errs[x] < 50 {
			t.Errorf("%s: %d times", x, errs[x])
		}
	}
}

// why is an error, if something is so.
func why(is bool, e api.Errno) api.Errno {
	if is {
		return e
	}
	return api.OK
}

// first is the first error, if there is one.
func first(l ...api.Errno) api.Errno {
	for _, e := range l {
		if e != api.OK {
			return e
		}
	}
	return api.OK
}
