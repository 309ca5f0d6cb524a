package run_test

import (
	"fmt"
	"math"
	"reflect"
	"slices"
	"testing"

	"deadbolt/api"
	"deadbolt/flags"
	"deadbolt/machine"
	"deadbolt/prog"
	"deadbolt/run"
)

const (
	mostTime   = 1 << 62
	mostScript = 20000
	thresh     = 1000000
	leastInt   = math.MinInt
	mostInt    = math.MaxInt
)

// programs are those of a text.
func programs(text string) [][]api.Act {
	l, _, e := prog.Parse(text)
	if e != api.OK {
		panic("no programs: " + text)
	}
	return l
}

// start is the new world of a text's programs.
func start(text string) api.World {
	w, e := machine.New(programs(text))
	if e != api.OK {
		panic("no world: " + text)
	}
	return w
}

// word is the one of a text.
func word(text string) int {
	w, e := flags.Parse(text)
	if e != api.OK {
		panic("no word: " + text)
	}
	return w
}

// same holds two values against each other; a list without elements is like none.
func same(a, b any) bool { return fmt.Sprint(a) == fmt.Sprint(b) }

// none tells whether a world is the zero one.
func none(w api.World) bool { return same(w, api.World{}) }

// numbers is where all numbers of a value stand, those of its lists among them.
func numbers(v reflect.Value) []reflect.Value {
	var all []reflect.Value
	switch v.Kind() {
	case reflect.Int:
		all = append(all, v)
	case reflect.Struct:
		for i := range v.NumField() {
			all = append(all, numbers(v.Field(i))...)
		}
	case reflect.Slice:
		for i := range v.Len() {
			all = append(all, numbers(v.Index(i))...)
		}
	}
	return all
}

// spoil writes over all numbers of what a list holds.
func spoil(list any) {
	for _, at := range numbers(reflect.ValueOf(list)) {
		at.SetInt(99)
	}
}

// spoilWorld writes over all lists of a world.
func spoilWorld(w api.World) {
	spoil(w.Progs)
	spoil(w.Clients)
	spoil(w.Mutexes)
	spoil(w.Table)
}

// read is what a number of a script has somebody do: the client that steps, or how much time goes on.
func read(v int) (int, int) {
	switch {
	case v >= 0:
		return v % 16, 0
	case v < -mostTime:
		return -1, mostTime
	}
	return -1, -v
}

// played is a world behind a script and what happened, one number after the other, by the machine alone.
func played(t *testing.T, w api.World, l []int) (api.World, []api.Happened) {
	t.Helper()
	var all []api.Happened
	for at, v := range l {
		who, d := read(v)
		if who < 0 {
			if n, e := machine.Tick(w, d); e == api.OK {
				w = n
			}
			continue
		}
		n, events, e := machine.Step(w, who)
		if e != api.OK {
			t.Fatal(w, who, e)
		}
		for _, x := range events {
			all = append(all, api.Happened{At: at, Now: w.Now, Event: x})
		}
		w = n
	}
	return w, all
}

// checkGo holds what Go answers.
func checkGo(t *testing.T, w api.World, l []int, want api.World, all []api.Happened) {
	t.Helper()
	n, got, e := run.Go(w, l)
	if e != api.OK || !same(n, want) || !slices.Equal(got, all) {
		t.Fatalf("Go of\n%v by %.50v:\n%v, %v, %d, not\n%v, %v", w, l, n, got, e, want, all)
	}
}

// refused holds that nothing stands beside an error.
func refused(t *testing.T, name string, n api.World, all []api.Happened, e, why api.Errno) {
	t.Helper()
	if e != why || !none(n) || len(all) != 0 {
		t.Errorf("%s: %v, %v, %d, not %d", name, n, all, e, why)
	}
}

// happened is an event, the place of its entry, and the time.
func happened(at, now, who, kind, mutex int) api.Happened {
	return api.Happened{At: at, Now: now, Event: api.Event{Who: who, Kind: kind, Mutex: mutex}}
}

// TestApi is of P17.1 and P17.2: the limit, the errors and the states are those that the document names.
func TestApi(t *testing.T) {
	if api.MaxScript != mostScript || api.MaxTime != mostTime || api.OK != 0 || api.ErrArg != 1 || api.ErrSize != 2 {
		t.Error(api.MaxScript, api.OK, api.ErrArg, api.ErrSize)
	}
	if api.GRun != 0 || api.GPark != 1 || api.GDone != 2 {
		t.Error(api.GRun, api.GPark, api.GDone)
	}
}

// TestExamples is of P17.1: the chapter's.
func TestExamples(t *testing.T) {
	l := programs("lock 0; unlock 0\n")
	w, all, e := run.Play(l, []int{0, -5, 0})
	if e != api.OK || w.Now != 5 || !slices.Equal(all, []api.Happened{happened(0, 0, 0, api.EGot, 0), happened(2, 5, 0, api.EGave, 0)}) {
		t.Error(w, all, e)
	}
	if is, e := run.Done(w); !is || e != api.OK {
		t.Error(is, e)
	}
}

// TestEvents is of P17.1: events of all kinds, each with the place of its entry and the time then; entries that bring about nothing count as places too; behind the fault nothing goes on.
func TestEvents(t *testing.T) {
	l := programs("lock 1; unlock 1; unlock 1; lock 0\ntry 1\ntry 1; try 1; unlock 1\n")
	w, all, e := run.Play(l, []int{2, -3, 0, 1, 2, -7, 16, 2, -1, 18, 2, -mostTime, 0, -5, 2, 0})
	want := []api.Happened{
		happened(2, 3, 0, api.EGot, 1), happened(3, 3, 1, api.ENo, 1), happened(4, 3, 2, api.ENo, 1), happened(6, 10, 0, api.EGave, 1),
		happened(9, 11, 2, api.ETry, 1), happened(10, 11, 2, api.EGave, 1), happened(12, 11, 0, api.EFault, 1),
	}
	if e != api.OK || !slices.Equal(all, want) || w.Now != 11 || w.Stop != api.ErrFault || w.Clients[0].Act != 2 {
		t.Error(w, all, e)
	}
}

// TestTicks is of P17.1: time goes on by ticks that may be, up to the last time; one that is refused leaves the world as it is, and those behind it are taken nevertheless.
func TestTicks(t *testing.T) {
	for _, x := range []struct {
		now    int
		script []int
		want   int
	}{
		{0, []int{-1}, 1}, {7, []int{-5}, 12}, {0, []int{-3, -4, -5}, 12}, {0, []int{-mostTime}, mostTime}, {0, []int{-mostTime - 1}, mostTime}, {0, []int{leastInt}, mostTime}, {1, []int{-mostTime + 1}, mostTime},
		{1, []int{-mostTime}, 1}, {1, []int{leastInt}, 1}, {mostTime, []int{-1}, mostTime}, {mostTime, []int{leastInt, -1, -mostTime}, mostTime}, {mostTime - 5, []int{-6}, mostTime - 5}, {mostTime - 5, []int{-5}, mostTime},
		{3, []int{-mostTime, -4, leastInt, -5}, 12}, {mostTime - 9, []int{-10, -6, -4, -3, -1}, mostTime}, {0, []int{-mostTime, -1}, mostTime}, {0, []int{-mostTime / 2, -mostTime / 2, -1}, mostTime},
	} {
		w := start("lock 0\n\n")
		w.Now = x.now
		want := start("lock 0\n\n")
		want.Now = x.want
		checkGo(t, w, x.script, want, nil)
	}
}

// TestRefusedTick is of P17.1: who steps behind a tick that was refused does so at the time that there was.
func TestRefusedTick(t *testing.T) {
	w := start("lock 0; unlock 0\n")
	w.Now = mostTime - 1
	n, all, e := run.Go(w, []int{-2, 0, leastInt, -1, 0})
	if e != api.OK || n.Now != mostTime || !slices.Equal(all, []api.Happened{happened(1, mostTime-1, 0, api.EGot, 0), happened(4, mostTime, 0, api.EGave, 0)}) {
		t.Error(n, all, e)
	}
}

// TestNobody is of P17.1: steps of clients that there are not, that are parked, or that are done leave the world as it is; a number from 16 on is a step of its remainder.
func TestNobody(t *testing.T) {
	text := "work 9\nlock 0\n\n"
	w := start(text)
	w.Clients[1].Gor.State = api.GPark
	w.Clients[1].Pc = api.PcWoken
	for v := range 48 {
		want := start(text)
		want.Clients[1] = w.Clients[1]
		if v%16 == 0 {
			want.Clients[0].Worked = 1
		}
		checkGo(t, w, []int{v}, want, nil)
	}
	checkGo(t, w, []int{mostInt, mostInt - 14, 3, 1}, w, nil)
}

// TestStopped is of P17.1: a world that stopped is as it is behind any script, and nothing happens.
func TestStopped(t *testing.T) {
	for _, stop := range []api.Errno{api.ErrFault, api.ErrBroken} {
		w := start("lock 0; unlock 0\nwork 5\n")
		w.Stop, w.Now = stop, 7
		for _, l := range [][]int{nil, {}, {0}, {1}, {-1}, {-mostTime}, {0, 1, -5, 0, 1, -5, 2, 15}} {
			checkGo(t, w, l, w, nil)
		}
	}
}

// TestBreaks is of P17.1: a world that stops on the way as its words do not fit together tells of nothing then, and does not go on, nor does time.
func TestBreaks(t *testing.T) {
	w := start("unlock 0\nlock 0\n")
	w.Clients[0].Pc = api.PcServes // though no ticket is out
	w.Mutexes[0].Word = word("--S1")
	n, all, e := run.Go(w, []int{-4, 1, 0, -5, 1, 0})
	w.Clients[1].Pc, w.Now, w.Stop = api.PcLoad, 4, api.ErrBroken
	if e != api.OK || !same(n, w) || len(all) != 0 {
		t.Error(n, all, e)
	}
}

// mixed is a script of so many entries, steps and ticks, by a rule.
func mixed(n int) []int {
	l := make([]int, n)
	for i := range l {
		l[i] = i*7%23 - 4
	}
	return l
}

// TestSizes is of P17.1: no script, an empty one, short ones, one of as many entries as may be, and longer ones.
func TestSizes(t *testing.T) {
	l := programs("lock 0; work 9; unlock 0; lock 1; unlock 1\nlock 0; work 3; unlock 0\n\ntry 1; try 0\n")
	for _, n := range []int{1, 2, 3, 100, mostScript - 1, mostScript} {
		want, all := played(t, start("lock 0; work 9; unlock 0; lock 1; unlock 1\nlock 0; work 3; unlock 0\n\ntry 1; try 0\n"), mixed(n))
		w, got, e := run.Play(l, mixed(n))
		if e != api.OK || !same(w, want) || !slices.Equal(got, all) {
			t.Errorf("%d entries: %v, %v, %d", n, w, got, e)
		}
		checkGo(t, start("lock 0; work 9; unlock 0; lock 1; unlock 1\nlock 0; work 3; unlock 0\n\ntry 1; try 0\n"), mixed(n), want, all)
	}
	for _, n := range []int{mostScript + 1, mostScript + 2, 2 * mostScript, 1 << 20} {
		w, all, e := run.Play(l, mixed(n))
		refused(t, fmt.Sprint("Play of ", n), w, all, e, api.ErrSize)
		w, all, e = run.Go(start("lock 0\n"), mixed(n))
		refused(t, fmt.Sprint("Go of ", n), w, all, e, api.ErrSize)
	}
}

// TestNoScript is of P17.1: behind no pick the world is as it is, whatever it is.
func TestNoScript(t *testing.T) {
	for _, l := range [][]int{nil, {}} {
		for _, text := range []string{"", "\n", "\n\n\n", "lock 0\n", "work 0; try 3\n\nunlock 2\n"} {
			w := start(text)
			checkGo(t, w, l, w, nil)
			n, all, e := run.Play(programs(text), l)
			if e != api.OK || !same(n, w) || len(all) != 0 {
				t.Errorf("Play of %q: %v, %v, %d", text, n, all, e)
			}
		}
		checkGo(t, rich(), l, rich(), nil)
	}
}

// TestLastEntry is of P17.1: the last entry of as many as may be is played, with its place.
func TestLastEntry(t *testing.T) {
	l := slices.Repeat([]int{-1}, mostScript)
	l[mostScript-1] = 1
	w, all, e := run.Play(programs("\nlock 3\n"), l)
	if e != api.OK || w.Now != mostScript-1 || !slices.Equal(all, []api.Happened{happened(mostScript-1, mostScript-1, 1, api.EGot, 3)}) {
		t.Error(w, all, e)
	}
}

// TestEmptyPrograms is of P17.1 and P17.2: without a program, or with empty ones, time alone goes on.
func TestEmptyPrograms(t *testing.T) {
	for _, l := range [][][]api.Act{nil, {}, {nil}, {{}, nil}, make([][]api.Act, 8)} {
		w, all, e := run.Play(l, []int{0, 1, -5, 7, 15, -2, 16})
		want, _ := machine.New(l)
		want.Now = 7
		if e != api.OK || !same(w, want) || len(all) != 0 {
			t.Errorf("Play of %v: %v, %v, %d", l, w, all, e)
		}
		if is, e := run.Done(w); !is || e != api.OK {
			t.Errorf("Done of %v: %t, %d", w, is, e)
		}
	}
}

// rich is a world that may be in which little is zero, of clients that run, are parked and are done.
func rich() api.World {
	return api.World{
		Now:   5 * thresh,
		Progs: programs("work 3; lock 2; work 7\nlock 2; unlock 2\ntry 1; unlock 1\n\nwork 9\n"),
		Clients: []api.Client{
			{Gor: api.Gor{Permit: true}, Act: 1, Pc: api.PcServe, Ticket: 41, First: true, Own: api.Own{Since: 77, Starving: true, Rounds: 3, Old: word("L-S5")}},
			{Gor: api.Gor{State: api.GPark}, Pc: api.PcWoken, Ticket: 39, Own: api.Own{Since: 4 * thresh, Rounds: 4, Old: word("L--0")}},
			{Act: 1, Pc: api.PcGrant, Ticket: 5, Own: api.Own{Since: -1, Old: word("---1")}},
			{Gor: api.Gor{State: api.GDone}, Ticket: 6, Own: api.Own{Since: -1}},
			{Worked: 8, Own: api.Own{Since: -1}},
		},
		Mutexes: []api.Mutex{{Word: 1}, {Word: word("-W-2"), Line: api.Ticket{Next: 6, Serve: 5}}, {Word: word("L--3"), Line: api.Ticket{Next: 42, Serve: 41}}, {}},
		Table:   []api.Spot{{Addr: 8, Line: []int{1, 3}}, {Addr: 16, Line: []int{0, 1}}, {Addr: 24, Count: 2}},
	}
}

// wrongWorlds are some that may not be, each for one reason.
func wrongWorlds() map[string]api.World {
	all := map[string]api.World{"nothing": {}}
	for name, change := range map[string]func(w *api.World){
		"time below 0":      func(w *api.World) { w.Now = -1 },
		"time above all":    func(w *api.World) { w.Now = mostTime + 1 },
		"one program less":  func(w *api.World) { w.Progs = w.Progs[:4] },
		"one client less":   func(w *api.World) { w.Clients = w.Clients[:4] },
		"no such mutex":     func(w *api.World) { w.Progs[4][0] = api.Act{Kind: api.ALock, N: 4} },
		"three mutexes":     func(w *api.World) { w.Mutexes = w.Mutexes[:3] },
		"five mutexes":      func(w *api.World) { w.Mutexes = append(w.Mutexes, api.Mutex{}) },
		"no word":           func(w *api.World) { w.Mutexes[3].Word = -1 },
		"no ticket":         func(w *api.World) { w.Mutexes[0].Line.Serve = -1 },
		"empty spot":        func(w *api.World) { w.Table[2].Count = 0 },
		"no such address":   func(w *api.World) { w.Table[2].Addr = 32 },
		"nobody waits":      func(w *api.World) { w.Table[0].Line = []int{5} },
		"no state":          func(w *api.World) { w.Clients[4].Gor.State = 3 },
		"parked, permitted": func(w *api.World) { w.Clients[1].Gor.Permit = true },
		"done, with an act": func(w *api.World) { w.Clients[4] = w.Clients[3] },
		"runs, without one": func(w *api.World) { w.Clients[3].Gor.State = api.GRun },
		"no such act":       func(w *api.World) { w.Clients[0].Act = 4 },
		"no such place":     func(w *api.World) { w.Clients[2].Pc = api.PcTry },
		"too much work":     func(w *api.World) { w.Clients[4].Worked = 9 },
		"ticket below 0":    func(w *api.World) { w.Clients[3].Ticket = -1 },
		"too many rounds":   func(w *api.World) { w.Clients[1].Own.Rounds = 5 },
		"stopped by others": func(w *api.World) { w.Stop = api.ErrOver },
	} {
		w := rich()
		change(&w)
		all[name] = w
	}
	return all
}

// TestWrongWorlds is of P17.1, P17.2 and P1: ErrArg, with nothing beside it, and by whatever script; ErrSize is told first.
func TestWrongWorlds(t *testing.T) {
	if !machine.Right(rich()) {
		t.Fatal("the world that is made wrong is so at first")
	}
	for name, w := range wrongWorlds() {
		was := fmt.Sprint(w)
		for _, l := range [][]int{nil, {}, {0}, {-1}, {leastInt, mostInt}, mixed(mostScript)} {
			n, all, e := run.Go(w, l)
			refused(t, name, n, all, e, api.ErrArg)
		}
		n, all, e := run.Go(w, mixed(mostScript+1))
		refused(t, name+", and too long", n, all, e, api.ErrSize)
		if is, e := run.Done(w); is || e != api.ErrArg {
			t.Errorf("%s: Done: %t, %d", name, is, e)
		}
		if fmt.Sprint(w) != was {
			t.Errorf("%s: was changed: %v", name, w)
		}
	}
}

// wrongPrograms are some that may not be.
func wrongPrograms() [][][]api.Act {
	l := [][][]api.Act{make([][]api.Act, 9), {make([]api.Act, 65)}, {nil, nil, make([]api.Act, 65)}}
	for _, a := range []api.Act{{Kind: -1}, {Kind: 4}, {Kind: leastInt}, {Kind: api.ALock, N: 4}, {Kind: api.ATry, N: -1}, {Kind: api.AUnlock, N: mostInt}, {Kind: api.AWork, N: -1}, {Kind: api.AWork, N: 1001}} {
		l = append(l, [][]api.Act{{a}}, [][]api.Act{{}, {{Kind: api.AWork, N: 1}, a}})
	}
	return l
}

// TestWrongPrograms is of P17.1, P17.2 and P1: ErrArg, with nothing beside it; of Play ErrSize is told first, of Turns ErrArg.
func TestWrongPrograms(t *testing.T) {
	for _, progs := range wrongPrograms() {
		name := fmt.Sprintf("%.60v", progs)
		for _, l := range [][]int{nil, {}, {0}, {-1, 3}, mixed(mostScript)} {
			w, all, e := run.Play(progs, l)
			refused(t, name, w, all, e, api.ErrArg)
		}
		w, all, e := run.Play(progs, mixed(mostScript+1))
		refused(t, name+", and too long", w, all, e, api.ErrSize)
		for _, rounds := range []int{0, 1, mostScript, mostScript + 1, mostInt} {
			if l, e := run.Turns(progs, rounds, 1, 1); e != api.ErrArg || len(l) != 0 {
				t.Errorf("Turns of %s: %v, %d", name, l, e)
			}
		}
	}
}

// turns is the script of so many programs, one entry after the other.
func turns(progs, rounds, each, d int) []int {
	var l []int
	for range rounds {
		for who := range progs {
			for range each {
				l = append(l, who)
			}
		}
		l = append(l, -d)
	}
	return l
}

// TestTurns is of P17.2: the script of few rounds, entry for entry, of no program up to as many as may be, empty or not.
func TestTurns(t *testing.T) {
	full := slices.Repeat([][]api.Act{slices.Repeat([]api.Act{{Kind: api.AWork, N: 1000}}, 64)}, 8)
	for progs := range 9 {
		for rounds := 1; rounds < 5; rounds++ {
			for each := 1; each < 5; each++ {
				for _, d := range []int{1, 2, 16, thresh, mostTime - 1, mostTime} {
					for _, of := range [][][]api.Act{make([][]api.Act, progs), full[:progs]} {
						l, e := run.Turns(of, rounds, each, d)
						if e != api.OK || !slices.Equal(l, turns(progs, rounds, each, d)) {
							t.Fatalf("Turns of %d programs, %d, %d, %d: %v, %d", progs, rounds, each, d, l, e)
						}
					}
				}
			}
		}
	}
}

// TestTurnsOfManyEntries is of P17.2: scripts of just as many entries as may be, or nearly, and of more.
func TestTurnsOfManyEntries(t *testing.T) {
	full := 0
	for progs := range 9 {
		of := make([][]api.Act, progs)
		for _, each := range []int{1, 2, 3, 57, 78, 100, 2499, 2500, 2501, 9999, 10000, mostScript - 1, mostScript} {
			most := mostScript / (progs*each + 1)
			for rounds := max(1, most-1); rounds <= most; rounds++ {
				l, e := run.Turns(of, rounds, each, 5)
				if e != api.OK || !slices.Equal(l, turns(progs, rounds, each, 5)) {
					t.Fatalf("Turns of %d programs, %d, %d: %.20v, %d", progs, rounds, each, l, e)
				}
				if len(l) == mostScript {
					full++
				}
			}
			for _, rounds := range []int{most + 1, most + 2, mostScript, mostScript + 1} {
				if rounds <= most {
					continue
				}
				if l, e := run.Turns(of, rounds, each, 5); e != api.ErrSize || len(l) != 0 {
					t.Fatalf("Turns of %d programs, %d, %d: %.20v, %d", progs, rounds, each, l, e)
				}
			}
		}
	}
	if full < 5 {
		t.Errorf("but %d scripts of as many entries as may be", full)
	}
}

// TestTurnsErrors is of P17.2 and P1: each number at its ends, beyond them, and far from them, all with all; ErrArg is told ahead of ErrSize.
func TestTurnsErrors(t *testing.T) {
	counts := []int{leastInt, -mostTime, -mostScript, -1, 0, 1, 2, mostScript, mostScript + 1, 1 << 31, 1 << 32, mostTime, mostTime + 1, mostInt}
	for _, progs := range []int{0, 1, 2, 8, 9} {
		for _, rounds := range counts {
			for _, each := range counts {
				for _, d := range []int{leastInt, -mostTime, -1, 0, 1, mostScript + 1, mostTime, mostTime + 1, mostInt} {
					why := api.OK
					switch {
					case progs > 8 || rounds < 1 || each < 1 || d < 1 || d > mostTime:
						why = api.ErrArg
					case rounds > mostScript || each > mostScript || rounds*(progs*each+1) > mostScript:
						why = api.ErrSize
					}
					l, e := run.Turns(make([][]api.Act, progs), rounds, each, d)
					if e != why || why != api.OK && len(l) != 0 {
						t.Fatalf("Turns of %d programs, %d, %d, %d: %.20v, %d, not %d", progs, rounds, each, d, l, e, why)
					}
				}
			}
		}
	}
}

// TestTurnsArePlayed is of P17.1 and P17.2: each entry is a step of its program's client, or the tick.
func TestTurnsArePlayed(t *testing.T) {
	progs := programs("work 1000\nwork 1000\nwork 1000\n")
	for _, d := range []int{1, thresh, mostTime / 7} {
		l, _ := run.Turns(progs, 7, 11, d)
		w, all, e := run.Play(progs, l)
		if e != api.OK || len(all) != 0 || w.Now != 7*d {
			t.Fatal(w, all, e)
		}
		for who, c := range w.Clients {
			if c.Worked != 77 {
				t.Errorf("%d worked %d times", who, c.Worked)
			}
		}
	}
}

// checkDone holds what Done answers of a world that may be.
func checkDone(t *testing.T, w api.World, want bool) {
	t.Helper()
	if is, e := run.Done(w); is != want || e != api.OK {
		t.Errorf("Done of %v: %t, %d", w, is, e)
	}
}

// TestDone is of P17.2: whether all are done, be it that there is none, that one alone is not, that it is parked, or that all stopped.
func TestDone(t *testing.T) {
	for text, want := range map[string]bool{"": true, "\n": true, "\n\n\n\n\n\n\n\n": true, "work 0\n": false, "\n\nwork 0\n": false, "work 0\n\n\n": false, "\nwork 0\n\n": false} {
		checkDone(t, start(text), want)
	}
	checkDone(t, rich(), false)
	progs := slices.Repeat([][]api.Act{{{Kind: api.AWork, N: 1}}}, 8)
	for set := range 256 {
		var l []int
		for who := range 8 {
			if set>>who%2 == 1 {
				l = append(l, who)
			}
		}
		w, _, e := run.Play(progs, l)
		if e != api.OK {
			t.Fatal(e)
		}
		for _, stop := range []api.Errno{api.OK, api.ErrFault, api.ErrBroken} {
			w.Stop = stop
			checkDone(t, w, set == 255)
		}
		for who, c := range w.Clients {
			if c.Gor.State == api.GRun {
				w.Clients[who].Gor.State = api.GPark
			}
		}
		checkDone(t, w, set == 255)
	}
}
