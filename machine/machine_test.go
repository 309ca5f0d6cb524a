package machine_test

import (
	"math"
	"slices"
	"testing"

	"deadbolt/api"
	"deadbolt/flags"
	"deadbolt/machine"
	"deadbolt/prog"
)

const (
	mostTime    = 1 << 62
	thresh      = 1000000
	mostWaiters = 1<<28 - 1
	mostWord    = 1<<31 - 1
	mostTicket  = 1<<32 - 1
	mostCount   = 1<<31 - 1
	leastInt    = math.MinInt
	mostInt     = math.MaxInt
)

// word is the one of a text.
func word(text string) int {
	w, e := flags.Parse(text)
	if e != api.OK {
		panic("no word: " + text)
	}
	return w
}

// programs are those of a text.
func programs(text string) [][]api.Act {
	l, _, e := prog.Parse(text)
	if e != api.OK {
		panic("no programs: " + text)
	}
	return l
}

// start is the new world of a text's programs.
func start(t *testing.T, text string) api.World {
	t.Helper()
	w, e := machine.New(programs(text))
	if e != api.OK {
		t.Fatal(text, e)
	}
	return w
}

// clone is the same world with lists of its own.
func clone(w api.World) api.World {
	w.Progs = slices.Clone(w.Progs)
	for i := range w.Progs {
		w.Progs[i] = slices.Clone(w.Progs[i])
	}
	w.Clients, w.Mutexes, w.Table = slices.Clone(w.Clients), slices.Clone(w.Mutexes), slices.Clone(w.Table)
	for i := range w.Table {
		w.Table[i].Line = slices.Clone(w.Table[i].Line)
	}
	return w
}

func sameSpot(a, b api.Spot) bool {
	return a.Addr == b.Addr && a.Count == b.Count && slices.Equal(a.Line, b.Line)
}

func sameTable(a, b []api.Spot) bool { return slices.EqualFunc(a, b, sameSpot) }

// same holds worlds against each other; a list without elements is like none.
func same(a, b api.World) bool {
	return a.Now == b.Now && a.Stop == b.Stop && slices.EqualFunc(a.Progs, b.Progs, slices.Equal) && slices.Equal(a.Clients, b.Clients) && slices.Equal(a.Mutexes, b.Mutexes) && sameTable(a.Table, b.Table)
}

// none tells whether a world is the zero one.
func none(w api.World) bool { return same(w, api.World{}) }

// spoil writes over all lists of a world.
func spoil(w api.World) {
	for _, acts := range w.Progs {
		for i := range acts {
			acts[i] = api.Act{Kind: 99, N: 99}
		}
	}
	clear(w.Progs)
	clear(w.Mutexes)
	for i := range w.Clients {
		w.Clients[i] = api.Client{Act: 99}
	}
	for _, s := range w.Table {
		clear(s.Line)
	}
	clear(w.Table)
}

// fresh is what is remembered at first.
var fresh = api.Own{Since: -1}

// rich is a world that may be in which little is zero: clients that run, are parked and are done, with a permit and without; mutexes of all bits; tickets that went round; grants, and lines.
func rich() api.World {
	return api.World{
		Now:   5 * thresh,
		Progs: programs("work 3; lock 2; work 7\nlock 2; unlock 2\ntry 1; unlock 1\n\nwork 9\n"),
		Clients: []api.Client{
			{Gor: api.Gor{Permit: true}, Act: 1, Pc: api.PcServe, Ticket: 41, First: true, Told: true, Own: api.Own{Since: 77, Starving: true, Awake: true, Rounds: 3, Old: word("LWS5")}},
			{Gor: api.Gor{State: api.GPark}, Act: 0, Pc: api.PcWoken, Ticket: 39, Own: api.Own{Since: 4 * thresh, Rounds: 4, Old: word("L--0")}},
			{Act: 1, Pc: api.PcGrant, Ticket: mostTicket, Own: api.Own{Since: mostTime, Old: mostWord}},
			{Gor: api.Gor{State: api.GDone}, Ticket: 6, First: true, Told: true, Own: api.Own{Since: 3, Awake: true, Rounds: 1, Old: 8}},
			{Act: 0, Worked: 8, Own: fresh},
		},
		Mutexes: []api.Mutex{
			{Word: word("L--1"), Line: api.Ticket{Next: 1, Serve: 1}},
			{Word: word("-W-2"), Line: api.Ticket{Next: 3, Serve: mostTicket}},
			{Word: word("L--3"), Line: api.Ticket{Next: 42, Serve: 40}},
			{Word: word("--S0"), Line: api.Ticket{Next: mostTicket, Serve: 0}},
		},
		Table: []api.Spot{{Addr: 0, Count: 3}, {Addr: 16, Line: []int{1, 4}}, {Addr: 24, Line: []int{2, 1, 0, 3, 4}}},
	}
}

// unchanged holds that a world is as it was.
func unchanged(t *testing.T, name string, now, was api.World) {
	t.Helper()
	if !same(now, was) {
		t.Errorf("%s changed what it was handed:\n%v\n%v", name, now, was)
	}
}

// TestApi is of P16.1 and P16.2: the limits, places and kinds are those that the document names.
func TestApi(t *testing.T) {
	if api.MaxMutexes != 4 || api.MaxGors != 8 || api.MaxActs != 64 || api.MaxWork != 1000 || api.MaxTime != mostTime || api.Thresh != thresh || api.MaxSpins != 4 {
		t.Error("limits")
	}
	if got := []int{api.PcStart, api.PcLoad, api.PcWant, api.PcDraw, api.PcTurn, api.PcSema, api.PcServe, api.PcWoken, api.PcHanded, api.PcTry, api.PcGive, api.PcSee, api.PcDraws, api.PcTurns, api.PcGrant, api.PcServes}; !slices.Equal(got, []int{0, 1, 2, 3, 4, 5, 6, 7, 8, 9, 10, 11, 12, 13, 14, 15}) {
		t.Error(got)
	}
	if got := []int{api.EGot, api.ETry, api.ENo, api.EGave, api.EFault}; !slices.Equal(got, []int{0, 1, 2, 3, 4}) {
		t.Error(got)
	}
}

// newOf is the world that is to be new, put together by hand.
func newOf(l [][]api.Act) api.World {
	w := api.World{Progs: l, Mutexes: []api.Mutex{{}, {}, {}, {}}}
	for _, acts := range l {
		c := api.Client{Own: fresh}
		if len(acts) == 0 {
			c.Gor.State = api.GDone
		}
		w.Clients = append(w.Clients, c)
	}
	return w
}

// full is as many programs as may be, of as many acts.
func full() [][]api.Act {
	l := make([][]api.Act, 8)
	for i := range l {
		for n := range 64 {
			kind := (n + i) % 4
			l[i] = append(l[i], api.Act{Kind: kind, N: (n + 3*i) % 4})
		}
	}
	return l
}

// rightPrograms are some that may be, at all edges.
func rightPrograms() [][][]api.Act {
	l := [][][]api.Act{nil, {}, {nil}, {{}}, {nil, {}, nil}, make([][]api.Act, 8), full()}
	for _, text := range []string{"lock 0\n", "lock 3\n", "try 0\n", "try 3\n", "unlock 0\n", "unlock 3\n", "work 0\n", "work 1\n", "work 1000\n", "lock 0; unlock 0\n\ntry 1; work 5; unlock 1\n"} {
		l = append(l, programs(text))
	}
	return l
}

// wrongPrograms are some that may not be.
func wrongPrograms() [][][]api.Act {
	one := func(kind, n int) [][]api.Act { return [][]api.Act{{{Kind: api.AWork, N: 1}}, {{Kind: kind, N: n}}} }
	l := [][][]api.Act{make([][]api.Act, 9), append(full(), nil), {make([]api.Act, 65)}, {nil, append(full()[0], api.Act{})}}
	for _, kind := range []int{api.ALock, api.ATry, api.AUnlock} {
		l = append(l, one(kind, -1), one(kind, 4), one(kind, leastInt), one(kind, mostInt))
	}
	return append(l, one(api.AWork, -1), one(api.AWork, 1001), one(api.AWork, leastInt), one(api.AWork, mostInt), one(-1, 0), one(4, 0), one(leastInt, 0), one(mostInt, 0))
}

// TestNew is of P16.1: the world is that of the programs, at 0; all clients are at first, and who has nothing to do is done; it may be.
func TestNew(t *testing.T) {
	for i, l := range rightPrograms() {
		w, e := machine.New(l)
		if e != api.OK || !same(w, newOf(l)) || !machine.Right(w) {
			t.Errorf("%d: New(%v) = %v, %d", i, l, w, e)
		}
	}
}

// TestNewOfWrongPrograms is of P16.1 and P1: ErrArg, and no world.
func TestNewOfWrongPrograms(t *testing.T) {
	for i, l := range wrongPrograms() {
		if w, e := machine.New(l); e != api.ErrArg || !none(w) {
			t.Errorf("%d: New(%v) = %v, %d", i, l, w, e)
		}
	}
}

// TestNewIsItsOwn is of P16.1: what is written over a new world changes neither the programs nor another world.
func TestNewIsItsOwn(t *testing.T) {
	l := full()
	l[1] = l[0] // two programs in one list
	w, _ := machine.New(l)
	other, _ := machine.New(l)
	spoil(w)
	want := full()
	want[1] = want[0]
	if !slices.EqualFunc(l, want, slices.Equal) || !same(other, newOf(want)) {
		t.Error(l, other)
	}
}

// spoiling is what makes a world one that may not be.
type spoiling struct {
	name string
	make func(w *api.World)
}

// worldSpoilings make wrong what is not of a client.
func worldSpoilings() []spoiling {
	l := []spoiling{
		{"clients: one less", func(w *api.World) { w.Clients = w.Clients[:4] }},
		{"clients: none", func(w *api.World) { w.Clients = nil }},
		{"clients: one more", func(w *api.World) {
			w.Clients = append(w.Clients, api.Client{Gor: api.Gor{State: api.GDone}, Own: fresh})
		}},
		{"programs: one less", func(w *api.World) { w.Progs = w.Progs[:4] }},
		{"programs: one more", func(w *api.World) { w.Progs = append(w.Progs, nil) }},
		{"programs: none", func(w *api.World) { w.Progs = nil }},
		{"mutexes: none", func(w *api.World) { w.Mutexes = nil }},
		{"mutexes: three", func(w *api.World) { w.Mutexes = w.Mutexes[:3] }},
		{"mutexes: five", func(w *api.World) { w.Mutexes = append(w.Mutexes, api.Mutex{}) }},
	}
	for _, now := range []int{-1, leastInt, mostTime + 1, mostInt} {
		l = append(l, spoiling{"time", func(w *api.World) { w.Now = now }})
	}
	for _, n := range []int{-1, -8, leastInt, mostWord + 1, 1 << 32, mostInt} {
		l = append(l, spoiling{"word of 0", func(w *api.World) { w.Mutexes[0].Word = n }}, spoiling{"word of 3", func(w *api.World) { w.Mutexes[3].Word = n }})
	}
	for _, n := range []int{-1, leastInt, mostTicket + 1, mostInt} {
		l = append(l, spoiling{"next ticket", func(w *api.World) { w.Mutexes[3].Line.Next = n }}, spoiling{"served ticket", func(w *api.World) { w.Mutexes[1].Line.Serve = n }})
	}
	for _, stop := range []api.Errno{-1, 1, 2, 3, 4, 5, 6, 7, 8, 9, 10, 13, leastInt, mostInt} {
		l = append(l, spoiling{"stop", func(w *api.World) { w.Stop = stop }})
	}
	return slices.Concat(l, actSpoilings(), tableSpoilings())
}

// actSpoilings make wrong a program, behind where its client is.
func actSpoilings() []spoiling {
	var l []spoiling
	for _, a := range []api.Act{{Kind: api.ALock, N: -1}, {Kind: api.ATry, N: 4}, {Kind: api.AUnlock, N: mostInt}, {Kind: api.AWork, N: -1}, {Kind: api.AWork, N: 1001}, {Kind: -1}, {Kind: 4}} {
		l = append(l, spoiling{"act", func(w *api.World) { w.Progs[0][2] = a }})
	}
	return append(l,
		spoiling{"acts", func(w *api.World) { w.Progs[1] = append(w.Progs[1], make([]api.Act, 63)...) }},
		spoiling{"nine of all", func(w *api.World) {
			w.Progs = append(w.Progs, nil, nil, nil, nil)
			w.Clients = append(w.Clients, w.Clients[3], w.Clients[3], w.Clients[3], w.Clients[3])
		}},
	)
}

// tableSpoilings make wrong the table.
func tableSpoilings() []spoiling {
	l := []spoiling{
		{"table: falling", func(w *api.World) { slices.Reverse(w.Table) }},
		{"table: twice", func(w *api.World) { w.Table[1] = w.Table[0] }},
		{"table: empty spot", func(w *api.World) { w.Table[0].Count = 0 }},
		{"table: grants, and who waits", func(w *api.World) { w.Table[1].Count = 1 }},
		{"table: less than no grant", func(w *api.World) { w.Table[0].Count = -1 }},
		{"table: too many grants", func(w *api.World) { w.Table[0].Count = mostCount + 1 }},
		{"table: who waits twice", func(w *api.World) { w.Table[2].Line = []int{2, 1, 2} }},
	}
	for _, who := range []int{-1, leastInt, 5, 6, 8, 64, mostInt} {
		l = append(l, spoiling{"table: no client", func(w *api.World) { w.Table[1].Line = []int{1, who} }})
	}
	for _, addr := range []int{-8, -1, leastInt, 1, 4, 7, 9, 15, 17, 23, 25, 31, 32, 33, 40, 64, 2008, 8032, mostTicket - 7, mostTicket, mostTicket + 1, mostInt} {
		l = append(l, spoiling{"table: no mutex's address", func(w *api.World) { w.Table = []api.Spot{{Addr: addr, Count: 1}} }})
	}
	return l
}

// clientSpoilings make wrong one thing of a client that may be.
func clientSpoilings() []spoiling {
	var l []spoiling
	add := func(name string, who int, change func(c *api.Client)) {
		l = append(l, spoiling{name, func(w *api.World) { change(&w.Clients[who]) }})
	}
	for _, state := range []int{-1, 3, leastInt, mostInt} {
		add("state", 2, func(c *api.Client) { c.Gor.State = state })
	}
	add("parked, with a permit", 1, func(c *api.Client) { c.Gor.Permit = true })
	add("done, with a permit", 3, func(c *api.Client) { c.Gor.Permit = true })
	add("done, though there is an act", 2, func(c *api.Client) { c.Gor.State = api.GDone })
	add("done, at first", 4, func(c *api.Client) { *c = api.Client{Gor: api.Gor{State: api.GDone}, Own: fresh} })
	add("runs, though there is no act", 3, func(c *api.Client) { c.Gor.State = api.GRun })
	add("is parked, though there is no act", 3, func(c *api.Client) { c.Gor.State = api.GPark })
	for _, act := range []int{-1, leastInt, 4, mostInt} {
		add("act", 0, func(c *api.Client) { c.Act = act })
	}
	add("act: all done, but runs", 0, func(c *api.Client) { *c = api.Client{Act: 3, Own: fresh} })
	add("act: past the end, and done", 3, func(c *api.Client) { c.Act = 1 })
	add("act: ahead of the first, and done", 3, func(c *api.Client) { c.Act = -1 })
	for _, n := range []int{-1, leastInt, mostTicket + 1, mostInt} {
		for who := range 4 {
			add("ticket", who, func(c *api.Client) { c.Ticket = n })
		}
	}
	for _, o := range []api.Own{{Since: -2}, {Since: mostTime + 1}, {Since: leastInt}, {Rounds: -1}, {Rounds: 5}, {Old: -1}, {Old: mostWord + 1}, {Old: mostInt}} {
		for who := range 4 {
			add("remembered", who, func(c *api.Client) { c.Own = o })
		}
	}
	for _, n := range []int{-1, leastInt, 9, 10, 1000, mostInt} {
		add("work", 4, func(c *api.Client) { c.Worked = n })
	}
	for _, n := range []int{-1, 1, 2, mostInt} {
		for who := range 4 {
			add("work of who does not", who, func(c *api.Client) { c.Worked = n })
		}
	}
	for _, pc := range []int{-1, leastInt, 16, mostInt} {
		for who := range 5 {
			add("place", who, func(c *api.Client) { c.Pc = pc })
		}
	}
	return l
}

// refused holds that a world may not be, and that both calls say so, ahead of all else, with nothing beside it.
func refused(t *testing.T, name string, w api.World) {
	t.Helper()
	if machine.Right(w) {
		t.Errorf("%s: %v may not be", name, w)
	}
	for _, who := range []int{leastInt, -1, 0, 1, 2, 3, 4, 5, mostInt} {
		if n, events, e := machine.Step(w, who); e != api.ErrArg || len(events) != 0 || !none(n) {
			t.Errorf("%s: Step by %d = %v, %v, %d", name, who, n, events, e)
		}
	}
	for _, d := range []int{leastInt, -1, 0, 1, mostTime, mostTime + 1, mostInt} {
		if n, e := machine.Tick(w, d); e != api.ErrArg || !none(n) {
			t.Errorf("%s: Tick of %d = %v, %d", name, d, n, e)
		}
	}
}

// TestWrongWorlds is of P16.1, P16.2 and P1: worlds that may not be for one reason alone, and such as stopped besides.
func TestWrongWorlds(t *testing.T) {
	if !machine.Right(rich()) {
		t.Fatal("the world that is spoiled may not be at first")
	}
	for _, s := range slices.Concat(worldSpoilings(), clientSpoilings()) {
		w := rich()
		s.make(&w)
		was := clone(w)
		refused(t, s.name, w)
		unchanged(t, s.name, w, was)
		if w.Stop == api.OK {
			w.Stop = api.ErrBroken
			refused(t, s.name+", and stopped", w)
		}
	}
	refused(t, "nothing at all", api.World{})
}

// TestWrongStops is of P16.1: of the errors that there are, a world stops with two alone.
func TestWrongStops(t *testing.T) {
	for stop := api.Errno(-1); stop < 20; stop++ {
		w := rich()
		w.Stop = stop
		if is := machine.Right(w); is != (stop == 0 || stop == 11 || stop == 12) {
			t.Errorf("stop %d: %v", stop, is)
		}
	}
}

// TestPlaces is of P16.1: each kind of act at each place, and at numbers that are none; where all is done, there is but the first one.
func TestPlaces(t *testing.T) {
	has := map[int][]int{api.ALock: {0, 1, 2, 3, 4, 5, 6, 7, 8}, api.ATry: {0, 9}, api.AUnlock: {0, 10, 11, 12, 13, 14, 15}, api.AWork: {0}}
	for pc := -20; pc < 40; pc++ {
		for kind, places := range has {
			w := rich()
			w.Progs[0][1] = api.Act{Kind: kind, N: 3}
			w.Clients[0].Pc = pc
			if is := machine.Right(w); is != slices.Contains(places, pc) {
				t.Errorf("kind %d, place %d: %v", kind, pc, is)
			}
		}
		w := rich()
		w.Clients[3].Pc = pc
		if is := machine.Right(w); is != (pc == 0) {
			t.Errorf("done, place %d: %v", pc, is)
		}
	}
}

// TestRightWork is of P16.1: whoever works is ahead of the last step of it, and nobody else worked.
func TestRightWork(t *testing.T) {
	for _, x := range []struct{ n, least, below int }{{0, 0, 1}, {1, 0, 1}, {2, 0, 2}, {9, 0, 9}, {999, 990, 999}, {1000, 990, 1000}} {
		for worked := x.least; worked < x.below+5; worked++ {
			w := rich()
			w.Progs[4][0].N = x.n
			w.Clients[4].Worked = worked
			if is := machine.Right(w); is != (worked < x.below) {
				t.Errorf("work of %d, %d done: %v", x.n, worked, is)
			}
		}
	}
}

// TestRightAtEdges is of P16.1: each number of a world at its ends, and next to them.
func TestRightAtEdges(t *testing.T) {
	for i, change := range []func(w *api.World){
		func(w *api.World) {}, func(w *api.World) { w.Now = 0 }, func(w *api.World) { w.Now = mostTime }, func(w *api.World) { w.Now = mostTime - 1 },
		func(w *api.World) { w.Mutexes[0].Word = 0 }, func(w *api.World) { w.Mutexes[3].Word = mostWord }, func(w *api.World) { w.Mutexes[1].Word = 7 },
		func(w *api.World) { w.Mutexes[0].Line = api.Ticket{} }, func(w *api.World) { w.Mutexes[3].Line = api.Ticket{Next: mostTicket, Serve: mostTicket} }, func(w *api.World) { w.Mutexes[3].Line = api.Ticket{Serve: mostTicket} },
		func(w *api.World) { w.Table = nil }, func(w *api.World) { w.Table = []api.Spot{} }, func(w *api.World) { w.Table = []api.Spot{{Addr: 24, Count: mostCount}} },
		func(w *api.World) {
			w.Table = []api.Spot{{Addr: 0, Count: 1}, {Addr: 8, Line: []int{4}}, {Addr: 16, Line: []int{0}}, {Addr: 24, Count: 2}}
		},
		func(w *api.World) { w.Stop = api.ErrFault }, func(w *api.World) { w.Stop = api.ErrBroken },
		func(w *api.World) { w.Clients[0] = api.Client{} }, func(w *api.World) { w.Clients[0].Act = 0; w.Clients[0].Pc = 0 },
		func(w *api.World) { w.Clients[0] = api.Client{Gor: api.Gor{State: api.GDone}, Act: 3} }, func(w *api.World) { w.Clients[0].Gor = api.Gor{State: api.GPark} },
		func(w *api.World) { w.Clients[4].Worked = 0 }, func(w *api.World) { w.Clients[4].First, w.Clients[4].Told = true, true },
		func(w *api.World) { w.Clients[2].Ticket = 0 }, func(w *api.World) { w.Clients[2].Own = api.Own{Rounds: 4} },
	} {
		w := rich()
		change(&w)
		was := clone(w)
		if !machine.Right(w) {
			t.Errorf("%d: %v may be", i, w)
		}
		unchanged(t, "Right", w, was)
	}
	if w := (api.World{Mutexes: make([]api.Mutex, 4)}); !machine.Right(w) {
		t.Error("a world without programs may be")
	}
}

// TestStill is of P16.2: a step of one who is parked, or done, or not there, leaves the world as it is, with no event.
func TestStill(t *testing.T) {
	for _, who := range []int{1, 3, -1, -2, -8, leastInt, leastInt + 1, 5, 6, 8, 64, 1 << 32, mostInt} {
		w := rich()
		n, events, e := machine.Step(w, who)
		if e != api.OK || len(events) != 0 || !same(n, rich()) {
			t.Errorf("%d: %v, %v, %d", who, n, events, e)
		}
		spoil(n)
		unchanged(t, "Step", w, rich())
	}
}

// TestStopped is of P16.2: any step, and any tick, of a world that stopped leaves it as it is; what is no time is ErrArg nevertheless.
func TestStopped(t *testing.T) {
	for _, stop := range []api.Errno{api.ErrFault, api.ErrBroken} {
		w := rich()
		w.Stop = stop
		was := clone(w)
		for _, who := range []int{leastInt, -1, 0, 1, 2, 3, 4, 5, mostInt} {
			if n, events, e := machine.Step(w, who); e != api.OK || len(events) != 0 || !same(n, was) {
				t.Errorf("stop %d: Step by %d = %v, %v, %d", stop, who, n, events, e)
			}
		}
		for _, d := range []int{0, 1, thresh, mostTime - 1, mostTime} {
			if n, e := machine.Tick(w, d); e != api.OK || !same(n, was) {
				t.Errorf("stop %d: Tick of %d = %v, %d", stop, d, n, e)
			}
		}
		for _, d := range []int{-1, leastInt, mostTime + 1, mostInt} {
			if n, e := machine.Tick(w, d); e != api.ErrArg || !none(n) {
				t.Errorf("stop %d: Tick of %d = %v, %d", stop, d, n, e)
			}
		}
		unchanged(t, "a call", w, was)
	}
}

// TestTick is of P16.2: Now alone goes on, up to the last time; numbers that are no time; and one too much.
func TestTick(t *testing.T) {
	for i, x := range []struct {
		now, d, want int
		why          api.Errno
	}{
		{0, 0, 0, api.OK}, {0, 1, 1, api.OK}, {1, 0, 1, api.OK}, {7, thresh, 7 + thresh, api.OK}, {0, mostTime, mostTime, api.OK}, {0, mostTime - 1, mostTime - 1, api.OK}, {1, mostTime - 1, mostTime, api.OK}, {mostTime - 1, 1, mostTime, api.OK}, {mostTime - 1, 0, mostTime - 1, api.OK}, {mostTime, 0, mostTime, api.OK}, {mostTime / 2, mostTime / 2, mostTime, api.OK},
		{1, mostTime, 0, api.ErrOver}, {mostTime, 1, 0, api.ErrOver}, {mostTime - 1, 2, 0, api.ErrOver}, {mostTime, mostTime, 0, api.ErrOver}, {mostTime / 2, mostTime/2 + 1, 0, api.ErrOver},
		{0, -1, 0, api.ErrArg}, {5, -5, 0, api.ErrArg}, {0, leastInt, 0, api.ErrArg}, {0, mostTime + 1, 0, api.ErrArg}, {mostTime, mostTime + 1, 0, api.ErrArg}, {mostTime, -1, 0, api.ErrArg}, {mostTime, mostInt, 0, api.ErrArg},
	} {
		w := rich()
		w.Now = x.now
		was, want := clone(w), api.World{}
		if x.why == api.OK {
			want = clone(w)
			want.Now = x.want
		}
		n, e := machine.Tick(w, x.d)
		if e != x.why || !same(n, want) {
			t.Errorf("%d: Tick of %d at %d = %v, %d", i, x.d, x.now, n, e)
		}
		spoil(n)
		unchanged(t, "Tick", w, was)
	}
}
