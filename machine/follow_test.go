package machine_test

import (
	"fmt"
	"math/rand"
	"slices"
	"testing"

	"deadbolt/api"
	"deadbolt/machine"
	"deadbolt/prog"
)

// about tells what a client's act is, and of which mutex, if it is of one.
func about(w api.World, who int) (api.Act, bool) {
	c := w.Clients[who]
	if c.Act == len(w.Progs[who]) {
		return api.Act{}, false
	}
	a := w.Progs[who][c.Act]
	return a, a.Kind != api.AWork
}

// forgotten is a mutex that nobody holds, which somebody wants, though nobody who has to do with it can go on; -1: there is none.
func forgotten(w api.World) int {
	for m := range w.Mutexes {
		wanted, cared := false, false
		for who, c := range w.Clients {
			a, is := about(w, who)
			if !is || a.N != m {
				continue
			}
			wanted = wanted || a.Kind == api.ALock
			cared = cared || c.Gor.State == api.GRun
		}
		if !locked(w.Mutexes[m].Word) && wanted && !cared {
			return m
		}
	}
	return -1
}

// touched is what a step touched: words, tickets and tables, one by one.
func touched(was, is api.World) int {
	n := 0
	for m := range is.Mutexes {
		if is.Mutexes[m].Word != was.Mutexes[m].Word {
			n++
		}
		if is.Mutexes[m].Line != was.Mutexes[m].Line {
			n++
		}
	}
	if !sameTable(is.Table, was.Table) {
		n++
	}
	return n
}

// strayed tells whether a step changed what is not its client's to change: another mutex, or another address, or of others more than that one goes on.
func strayed(was, is api.World, who int) bool {
	a, has := about(was, who)
	for m := range is.Mutexes {
		if (!has || a.N != m) && is.Mutexes[m] != was.Mutexes[m] {
			return true
		}
	}
	elsewhere := func(t []api.Spot) []api.Spot {
		return slices.DeleteFunc(slices.Clone(t), func(s api.Spot) bool { return has && s.Addr == 8*a.N })
	}
	if !sameTable(elsewhere(is.Table), elsewhere(was.Table)) {
		return true
	}
	told := 0
	for i, c := range is.Clients {
		if i == who || c == was.Clients[i] {
			continue
		}
		told++
		c.Gor = was.Clients[i].Gor
		if c != was.Clients[i] || is.Clients[i].Gor.State != api.GRun {
			return true
		}
	}
	return told > 1 || is.Now != was.Now || !slices.EqualFunc(is.Progs, was.Progs, slices.Equal)
}

// unheard tells whether the bits of a step's mutex changed otherwise than its event says: it is Locked just if it was got, and free just if it was given back.
func unheard(was, is api.World, events []api.Event) bool {
	want := make([]bool, len(was.Mutexes))
	for m := range want {
		want[m] = locked(was.Mutexes[m].Word)
	}
	for _, e := range events {
		switch e.Kind {
		case api.EGot, api.ETry:
			if want[e.Mutex] {
				return true
			}
			want[e.Mutex] = true
		case api.EGave:
			if !want[e.Mutex] {
				return true
			}
			want[e.Mutex] = false
		}
	}
	for m := range want {
		if locked(is.Mutexes[m].Word) != want[m] {
			return true
		}
	}
	return len(events) > 1
}

// unfair tells whether somebody got a mutex that was handed to another one, or made it starve, or ended that, though not his to do.
func unfair(was, is api.World, who int, events []api.Event) bool {
	a, has := about(was, who)
	if !has {
		return false
	}
	c, ahead, behind := was.Clients[who], was.Mutexes[a.N].Word, is.Mutexes[a.N].Word
	handed := a.Kind == api.ALock && c.Pc == api.PcHanded
	if starving(ahead) && !handed {
		for _, e := range events {
			if e.Kind == api.EGot || e.Kind == api.ETry {
				return true
			}
		}
	}
	if starving(ahead) != starving(behind) {
		if starving(ahead) {
			return !handed
		}
		return !c.Own.Starving || was.Now-c.Own.Since <= thresh
	}
	return false
}

// followed holds of a step of a world that came of a new one what is to follow.
func followed(t *testing.T, was, is api.World, who int, events []api.Event) {
	t.Helper()
	name := ""
	switch {
	case !machine.Right(is):
		name = "may not be"
	case is.Stop == api.ErrBroken:
		name = "stops with ErrBroken"
	case touched(was, is) > 1:
		name = "touched more than one word"
	case strayed(was, is, who):
		name = "touched what is another one's"
	case unheard(was, is, events):
		name = "is Locked otherwise than was told"
	case unfair(was, is, who, events):
		name = "was handed on unfairly"
	case forgotten(is) >= 0:
		name = "forgot somebody"
	}
	if name != "" {
		t.Fatalf("%s: %d steps in\n%v:\n%v, %v", name, who, was, is, events)
	}
}

// explore goes through all worlds that may come of programs, by whatever steps, and by ticks of more than a millisecond at most so often; it tells how many there are.
func explore(t *testing.T, text string, ticks int) int {
	t.Helper()
	w := start(t, text)
	seen := map[string]bool{fmt.Sprint(w): true}
	work := []api.World{w}
	add := func(n api.World) {
		if key := fmt.Sprint(n); !seen[key] {
			seen[key] = true
			work = append(work, n)
		}
	}
	for len(work) > 0 {
		w, work = work[len(work)-1], work[:len(work)-1]
		for who, c := range w.Clients {
			if c.Gor.State != api.GRun || w.Stop != api.OK {
				continue
			}
			n, events, e := machine.Step(w, who)
			if e != api.OK {
				t.Fatal(w, who, e)
			}
			followed(t, w, n, who, events)
			add(n)
		}
		if w.Now < ticks*(thresh+1) && w.Stop == api.OK {
			n, e := machine.Tick(w, thresh+1)
			if e != api.OK {
				t.Fatal(w, e)
			}
			add(n)
		}
	}
	return len(seen)
}

// TestExplore is of P16.3, P2, P3 and P4: all worlds that may come of some programs, such as are tidy, hold two mutexes at once, try, give back what another one locked, what is free, or nothing; with no time, and with enough of it that somebody starves.
func TestExplore(t *testing.T) {
	pair, three := "lock 0; unlock 0\n", "lock 0; unlock 0\nlock 0; unlock 0\nlock 0; unlock 0\n"
	for _, x := range []struct {
		text        string
		ticks, want int
	}{
		{pair + pair, 2, 500}, {pair + "lock 0; unlock 0; lock 0; unlock 0\n", 1, 1000}, {"lock 0; unlock 0; lock 0; unlock 0\nlock 0; unlock 0; lock 0; unlock 0\n", 2, 10000},
		{pair + "try 0; unlock 0\n", 1, 100}, {pair + pair + "try 0\n", 1, 2000}, {"try 0; unlock 0\ntry 0; unlock 0\n" + pair, 1, 500},
		{"lock 0; lock 1; unlock 1; unlock 0\nlock 1; lock 0; unlock 0; unlock 1\n", 1, 500},
		{"lock 0\nunlock 0\nlock 0\n", 1, 100}, {"lock 0; lock 0\nunlock 0; unlock 0\n", 1, 100}, {"lock 0\nunlock 0\n" + pair, 2, 500},
		{three, 1, 40000},
	} {
		if n := explore(t, x.text, x.ticks); n < x.want {
			t.Errorf("%q: but %d worlds", x.text, n)
		}
	}
}

// anyTidy is a tidy program: so many times it locks one of some mutexes, works, gives it back, and works.
func anyTidy(r *rand.Rand, times, mutexes, work int) []api.Act {
	var l []api.Act
	works := func() {
		for range r.Intn(3) {
			l = append(l, api.Act{Kind: api.AWork, N: r.Intn(work + 1)})
		}
	}
	for works(); times > 0; times-- {
		m := r.Intn(mutexes)
		l = append(l, api.Act{Kind: api.ALock, N: m})
		works()
		l = append(l, api.Act{Kind: api.AUnlock, N: m})
		works()
	}
	return l
}

// anyWild is a program of whatever acts, most of them of what locks and gives back.
func anyWild(r *rand.Rand) []api.Act {
	var l []api.Act
	for range r.Intn(20) {
		a := api.Act{Kind: pick(r, api.ALock, api.AUnlock, api.AUnlock, api.ATry, api.AWork), N: r.Intn(2)}
		l = append(l, a)
	}
	return l
}

// anyPrograms are some of one sort: tidy ones, wild ones, or both.
func anyPrograms(r *rand.Rand) [][]api.Act {
	l, sort := make([][]api.Act, 1+r.Intn(8)), r.Intn(3)
	for i := range l {
		if sort == 0 || sort == 1 && r.Intn(4) > 0 {
			l[i] = anyTidy(r, r.Intn(6), 1+r.Intn(2), 4)
			continue
		}
		l[i] = anyWild(r)
	}
	return l
}

// balance is how often each mutex was locked more often than it was given back.
type balance [4]int

func (b *balance) add(events []api.Event) {
	for _, e := range events {
		switch e.Kind {
		case api.EGot, api.ETry:
			b[e.Mutex]++
		case api.EGave:
			b[e.Mutex]--
		}
	}
}

// fits tells whether all mutexes are Locked just as it says.
func (b balance) fits(w api.World) bool {
	for m, n := range b {
		if n != 0 && n != 1 || locked(w.Mutexes[m].Word) != (n == 1) {
			return false
		}
	}
	return true
}

// steppers is how many, one behind the other, make the next steps of a play: one who goes on alone for a while gets to where others are not.
func steppers(r *rand.Rand, clients int) (int, int) {
	return r.Intn(clients+2) - 1, 1 + r.Intn(pick(r, 1, 3, 12))
}

// TestPlays is of P16.3, P2, P3 and P4: new worlds of many clients, by whatever steps and ticks; each place of each act is come to, mutexes starve, and are given back where they are free.
func TestPlays(t *testing.T) {
	r := rand.New(rand.NewSource(3))
	places, starved, stopped, done := map[[2]int]int{}, 0, 0, 0
	for range 400 {
		w, e := machine.New(anyPrograms(r))
		if e != api.OK {
			t.Fatal(e)
		}
		var b balance
		for range 250 {
			if r.Intn(3) == 0 {
				w = ticked(t, w, pick(r, 0, 1, thresh/3, thresh, thresh+1, mostTime/8))
			}
			who, times := steppers(r, len(w.Clients))
			for range times {
				n, events, e := machine.Step(w, who)
				if e != api.OK {
					t.Fatal(w, who, e)
				}
				if goes := who >= 0 && who < len(w.Clients) && w.Clients[who].Gor.State == api.GRun && w.Stop == api.OK; !goes {
					if !same(n, w) || len(events) != 0 {
						t.Fatalf("%d does not go on in\n%v:\n%v, %v", who, w, n, events)
					}
					break
				}
				places[[2]int{w.Progs[who][w.Clients[who].Act].Kind, w.Clients[who].Pc}]++
				followed(t, w, n, who, events)
				if b.add(events); !b.fits(n) {
					t.Fatalf("%v is told of\n%v", b, n)
				}
				if starving(n.Mutexes[0].Word) && !starving(w.Mutexes[0].Word) {
					starved++
				}
				w = n
			}
		}
		if w.Stop == api.ErrFault {
			stopped++
		} else if !slices.ContainsFunc(w.Clients, func(c api.Client) bool { return c.Gor.State != api.GDone }) {
			done++
		}
	}
	if len(places) != 19 || starved < 10 || stopped < 10 || done < 10 {
		t.Errorf("places %v, starved %d, stopped %d, done %d", places, starved, stopped, done)
	}
}

// ticked is a world behind a tick, or as it is, if that is too much.
func ticked(t *testing.T, w api.World, d int) api.World {
	t.Helper()
	n, e := machine.Tick(w, d)
	if e == api.ErrOver && w.Now+d > mostTime {
		return w
	}
	want := clone(w)
	if w.Stop == api.OK {
		want.Now += d
	}
	if e != api.OK || !same(n, want) {
		t.Fatalf("Tick of %d in\n%v:\n%v, %d", d, w, n, e)
	}
	return n
}

// stepsAlone is how many steps a tidy program makes that is alone: one for each lock, each unlock and each step of work, and for work of nothing.
func stepsAlone(l []api.Act) int {
	n := 0
	for _, a := range l {
		if a.Kind != api.AWork {
			n++
			continue
		}
		n += max(a.N, 1)
	}
	return n
}

// aloneIsDone holds that a tidy program that is alone is done behind just so many steps, and leaves nothing.
func aloneIsDone(t *testing.T, l []api.Act) {
	t.Helper()
	w, e := machine.New([][]api.Act{l})
	if e != api.OK {
		t.Fatal(l, e)
	}
	want, b := stepsAlone(l), balance{}
	for i := range want {
		if w.Clients[0].Gor.State == api.GDone {
			t.Fatalf("%v is done behind %d steps, not %d", l, i, want)
		}
		n, events, e := machine.Step(w, 0)
		if e != api.OK {
			t.Fatal(l, e)
		}
		followed(t, w, n, 0, events)
		if b.add(events); !b.fits(n) || n.Clients[0].Pc != api.PcStart {
			t.Fatalf("%v: %v, %v", l, events, n)
		}
		w = n
	}
	end := newOf([][]api.Act{l})
	end.Clients[0] = api.Client{Gor: api.Gor{State: api.GDone}, Act: len(l), Own: fresh}
	if !same(w, end) {
		t.Fatalf("%v: in the end\n%v", l, w)
	}
}

// TestAlone is of P16.3: tidy programs of none, few, and as many acts as may be, with work of 0, of 1, and of as much as may be.
func TestAlone(t *testing.T) {
	for _, text := range []string{"\n", "work 0\n", "work 1\n", "work 1000\n", "lock 0; unlock 0\n", "lock 3; work 0; unlock 3\n", "lock 0; work 5; unlock 0; work 1000; lock 1; unlock 1; lock 0; unlock 0\n"} {
		aloneIsDone(t, programs(text)[0])
	}
	var most []api.Act
	for m := range 32 {
		most = append(most, api.Act{Kind: api.ALock, N: m % 4}, api.Act{Kind: api.AUnlock, N: m % 4})
	}
	aloneIsDone(t, most)
	r := rand.New(rand.NewSource(5))
	for range 60 {
		aloneIsDone(t, anyTidy(r, r.Intn(8), 4, 40))
	}
}

// TestGoesRound is of P16.2 and P16.3: who waits goes round four times where another one can go on, and not at all where none can; then he parks, and comes behind those that wait.
func TestGoesRound(t *testing.T) {
	w := start(t, "lock 0; unlock 0\nlock 0; unlock 0\n")
	walk := func(who, times int) {
		for range times {
			n, events, e := machine.Step(w, who)
			if e != api.OK {
				t.Fatal(e)
			}
			followed(t, w, n, who, events)
			w = n
		}
	}
	walk(1, 1)
	walk(0, 10)
	if c := w.Clients[0]; c.Own.Rounds != 4 || c.Pc != api.PcWant {
		t.Fatal(c)
	}
	walk(0, 5)
	if c := w.Clients[0]; c.Gor.State != api.GPark || c.Pc != api.PcWoken || w.Mutexes[0].Word != word("L--1") {
		t.Fatal(w)
	}
	w = start(t, "lock 0\nlock 0\n")
	walk(1, 1)
	walk(0, 7)
	if c := w.Clients[0]; c.Own.Rounds != 0 || c.Gor.State != api.GPark || w.Mutexes[0].Word != word("L--1") {
		t.Fatal(w)
	}
}

// wild is a number of any size.
func wild(r *rand.Rand) int {
	return pick(r, 0, 1, 2, 3, 8, 15, 16, 64, mostWord, mostTicket, mostTime, mostInt, -1, -2, -8, leastInt, mostInt-1, leastInt+1, 1<<r.Intn(63), -1<<r.Intn(64)) + r.Intn(3) - 1
}

// upset writes wild numbers over some of a world, and may cut its lists.
func upset(r *rand.Rand, w *api.World) {
	var at []*int
	at = append(at, &w.Now)
	for i := range w.Clients {
		c := &w.Clients[i]
		at = append(at, &c.Gor.State, &c.Act, &c.Pc, &c.Worked, &c.Ticket, &c.Own.Since, &c.Own.Rounds, &c.Own.Old)
	}
	for i := range w.Mutexes {
		at = append(at, &w.Mutexes[i].Word, &w.Mutexes[i].Line.Next, &w.Mutexes[i].Line.Serve)
	}
	for i := range w.Table {
		at = append(at, &w.Table[i].Addr, &w.Table[i].Count)
		for k := range w.Table[i].Line {
			at = append(at, &w.Table[i].Line[k])
		}
	}
	for _, acts := range w.Progs {
		for i := range acts {
			at = append(at, &acts[i].Kind, &acts[i].N)
		}
	}
	for range r.Intn(4) {
		*at[r.Intn(len(at))] = wild(r)
	}
	switch r.Intn(12) {
	case 0:
		w.Clients = w.Clients[:r.Intn(len(w.Clients)+1)]
	case 1:
		w.Mutexes = w.Mutexes[:r.Intn(len(w.Mutexes)+1)]
	case 2:
		w.Progs = w.Progs[:r.Intn(len(w.Progs)+1)]
	case 3:
		w.Stop = api.Errno(wild(r))
	}
}

// TestEnds is of P1: no call panics, whatever it is handed; what it answers is the same each time, and fits Right; nothing stands beside an error.
func TestEnds(t *testing.T) {
	r := rand.New(rand.NewSource(8))
	rights := 0
	for range 30000 {
		w := anyWorld(r)
		upset(r, &w)
		is, who, d, was := machine.Right(w), wild(r), wild(r), clone(w)
		if is {
			rights++
		}
		n, events, e := machine.Step(w, who)
		again, events2, e2 := machine.Step(w, who)
		if (e == api.OK) != is || e != api.OK && (e != api.ErrArg || !none(n) || len(events) > 0) || !same(n, again) || !slices.Equal(events, events2) || e != e2 {
			t.Fatalf("Step(%v, %d) = %v, %v, %d", w, who, n, events, e)
		}
		n, e = machine.Tick(w, d)
		again, e2 = machine.Tick(w, d)
		if e == api.ErrArg && is && d >= 0 && d <= mostTime || e != api.OK && !none(n) || !same(n, again) || e != e2 {
			t.Fatalf("Tick(%v, %d) = %v, %d", w, d, n, e)
		}
		n, e = machine.New(w.Progs)
		if right := prog.Right(w.Progs); right != (e == api.OK) || !right && (e != api.ErrArg || !none(n)) {
			t.Fatalf("New(%v) = %v, %d", w.Progs, n, e)
		}
		unchanged(t, "a call", w, was)
	}
	if rights < 1000 || rights > 29000 {
		t.Errorf("%d worlds may be", rights)
	}
}
