package machine_test

import (
	"slices"
	"testing"

	"deadbolt/api"
	"deadbolt/machine"
)

const (
	mine = 2       // the mutex of the act whose steps are made here
	addr = 16      // and the address of that
	now  = 5e6     // the time of these worlds
	late = 4e6 - 1 // since when one waits who is just late by then
)

// at is a world whose client 0 is at a place of an act of mutex 2, with an act ahead of it and one behind it; little else is zero, so that it is seen, should it change.
func at(kind, pc int) api.World {
	w := rich()
	w.Now = now
	w.Progs[0][1] = api.Act{Kind: kind, N: mine}
	w.Clients[0] = api.Client{Act: 1, Pc: pc, Ticket: 40, Own: fresh}
	return w
}

// view is what a step may be about.
type view struct {
	w  *api.World
	me *api.Client
	m  *api.Mutex
}

func look(w *api.World) view {
	return view{w: w, me: &w.Clients[0], m: &w.Mutexes[mine]}
}

// over has client 0's act be over: another one is behind it.
func (v view) over() {
	*v.me = api.Client{Gor: v.me.Gor, Act: v.me.Act + 1, Own: fresh}
}

// broken has all stop, and nothing else be changed.
func (v view) broken() {
	v.w.Stop = api.ErrBroken
}

// step is a world in which client 0 makes a step, what that changes, and its event, if it has one.
type step struct {
	name   string
	ahead  func(v view)
	behind func(v view)
	kinds  []int
}

// steps holds that each step changes that, and nothing else; nor what is handed in.
func steps(t *testing.T, kind, pc int, l []step) {
	t.Helper()
	for _, s := range l {
		w := at(kind, pc)
		s.ahead(look(&w))
		if !machine.Right(w) {
			t.Fatalf("%s: %v may not be", s.name, w)
		}
		was, want := clone(w), clone(w)
		s.behind(look(&want))
		var events []api.Event
		for _, kind := range s.kinds {
			events = append(events, api.Event{Who: 0, Kind: kind, Mutex: mine})
		}
		n, got, e := machine.Step(w, 0)
		if e != api.OK || !same(n, want) || !slices.Equal(got, events) {
			t.Errorf("%s: events %v, %d:\n%v\nnot\n%v", s.name, got, e, n, want)
		}
		if !machine.Right(n) {
			t.Errorf("%s: %v may not be", s.name, n)
		}
		spoil(n)
		unchanged(t, s.name, w, was)
	}
}

// keep changes nothing.
func keep(view) {}

// sees has client 0 remember a word, and the mutex have another one, by their texts.
func sees(old, is string) func(v view) {
	return func(v view) { v.me.Own.Old, v.m.Word = word(old), word(is) }
}

// says has the mutex have a word, by its text.
func says(text string) func(v view) {
	return func(v view) { v.m.Word = word(text) }
}

// all makes several changes, one after the other.
func all(l ...func(v view)) func(v view) {
	return func(v view) {
		for _, change := range l {
			change(v)
		}
	}
}

// goesTo has client 0 be at another place.
func goesTo(pc int) func(v view) {
	return func(v view) { v.me.Pc = pc }
}

// texts are words of all bits, with none, one, and as many who wait as may be.
func texts() []string {
	var l []string
	for _, bits := range []string{"---", "L--", "-W-", "LW-", "--S", "L-S", "-WS", "LWS"} {
		for _, waiters := range []string{"0", "1", "2", "268435454", "268435455"} {
			l = append(l, bits+waiters)
		}
	}
	return l
}

// works has client 0 work, and has worked.
func works(n, worked int) func(v view) {
	return func(v view) { v.w.Progs[0][1].N, v.me.Worked = n, worked }
}

// TestWork is of P16.2, AWork: work of nothing and of one take a step; others as many as they say.
func TestWork(t *testing.T) {
	more := func(v view) { v.me.Worked++ }
	steps(t, api.AWork, api.PcStart, []step{
		{"work 0", works(0, 0), view.over, nil}, {"work 1", works(1, 0), view.over, nil},
		{"work 2, first", works(2, 0), more, nil}, {"work 2, last", works(2, 1), view.over, nil},
		{"work 9", works(9, 7), more, nil}, {"work 1000, first", works(1000, 0), more, nil}, {"work 1000, last but one", works(1000, 998), more, nil}, {"work 1000, last", works(1000, 999), view.over, nil},
	})
}

// TestLockStart is of P16.2, ALock's PcStart: a word of 0 alone is got at once.
func TestLockStart(t *testing.T) {
	l := []step{{"---0", says("---0"), all(says("L--0"), view.over), []int{api.EGot}}}
	for _, text := range texts()[1:] {
		l = append(l, step{text, says(text), goesTo(api.PcLoad), nil})
	}
	steps(t, api.ALock, api.PcStart, l)
}

// remembers are steps that remember the word, whatever it is, and go on.
func remembers(pc int) []step {
	var l []step
	for _, text := range texts() {
		behind := func(v view) { v.me.Own.Old, v.me.Pc = word(text), pc }
		rich := func(v view) { v.me.Own = api.Own{Since: 9, Starving: true, Awake: true, Rounds: 3, Old: 44} }
		l = append(l, step{text, says(text), behind, nil}, step{text + ", behind another one", all(says(text), rich), behind, nil})
	}
	return l
}

// TestLoads is of P16.2, PcLoad and PcSee.
func TestLoads(t *testing.T) {
	steps(t, api.ALock, api.PcLoad, remembers(api.PcWant))
	steps(t, api.AUnlock, api.PcSee, remembers(api.PcGive))
}

// awake has client 0 be awake.
func awake(v view) { v.me.Own.Awake = true }

// rounds has client 0 have gone round so often.
func rounds(n int) func(v view) {
	return func(v view) { v.me.Own.Rounds = n }
}

// alone has client 0 be the only one that runs.
func alone(v view) {
	for who := range v.w.Clients[1:] {
		if c := &v.w.Clients[1+who]; c.Gor.State == api.GRun {
			c.Gor = api.Gor{State: api.GPark}
		}
	}
}

// TestWantGoesRound is of P16.2, PcWant: who goes round says that he is awake where somebody waits, and nobody is awake, and the word is what he saw; else it is left as it is.
func TestWantGoesRound(t *testing.T) {
	round := func(v view) { v.me.Own.Rounds++; v.me.Pc = api.PcLoad }
	l := []step{
		{"nobody waits", sees("L--0", "L--0"), round, nil}, {"nobody waits, another word", sees("L--0", "---0"), round, nil},
		{"one waits", sees("L--1", "L--1"), all(round, says("LW-1"), awake), nil}, {"as many wait as may be", sees("L--268435455", "L--268435455"), all(round, says("LW-268435455"), awake), nil},
		{"one waits, as he did", sees("L--1", "L--2"), round, nil}, {"one waited", sees("L--1", "---1"), round, nil}, {"one waits, and it is free", sees("L--1", "---0"), round, nil}, {"somebody is awake by now", sees("L--1", "LW-1"), round, nil},
		{"somebody is awake", sees("LW-1", "LW-1"), round, nil}, {"he is awake", all(sees("LW-1", "LW-1"), awake), round, nil}, {"he is awake, and it is not said", all(sees("L--1", "L--1"), awake), round, nil},
		{"a last time", all(sees("L--1", "L--1"), rounds(3)), all(round, says("LW-1"), awake), nil}, {"a last time, nobody waits", all(sees("L--0", "---0"), rounds(3)), round, nil},
		{"another one runs", all(sees("L--0", "L--0"), alone, func(v view) { v.w.Clients[1].Gor.State = api.GRun }), round, nil},
		{"he starves", all(sees("L--1", "L--1"), func(v view) { v.me.Own.Since, v.me.Own.Starving = 3, true }), all(round, says("LW-1"), awake), nil},
	}
	steps(t, api.ALock, api.PcWant, l)
}

// waits has client 0 wait since then, starve or not, and be awake.
func waits(since int, starving bool) func(v view) {
	return func(v view) { v.me.Own.Since, v.me.Own.Starving, v.me.Own.Awake = since, starving, true }
}

// TestWantGets is of P16.2, PcWant: what is neither locked nor starves is got, and who was awake is not so any more.
func TestWantGets(t *testing.T) {
	got := func(text string) func(v view) { return all(says(text), view.over) }
	steps(t, api.ALock, api.PcWant, []step{
		{"free", sees("---0", "---0"), got("L--0"), []int{api.EGot}}, {"one waits", sees("---1", "---1"), got("L--1"), []int{api.EGot}}, {"as many wait as may be", sees("---268435455", "---268435455"), got("L--268435455"), []int{api.EGot}},
		{"somebody is awake", sees("-W-0", "-W-0"), got("LW-0"), []int{api.EGot}}, {"he is awake", all(sees("-W-0", "-W-0"), awake), got("L--0"), []int{api.EGot}}, {"he is awake, and starves", all(sees("-W-3", "-W-3"), waits(7, true)), got("L--3"), []int{api.EGot}},
		{"he starves", all(sees("---3", "---3"), waits(7, true), func(v view) { v.me.Own.Awake = false }), got("L--3"), []int{api.EGot}}, {"behind all rounds", all(sees("---0", "---0"), rounds(4)), got("L--0"), []int{api.EGot}}, {"alone", all(sees("---0", "---0"), alone), got("L--0"), []int{api.EGot}},
		{"with a permit", all(sees("---0", "---0"), func(v view) { v.me.Gor.Permit = true }), got("L--0"), []int{api.EGot}},
	})
}

// TestWantLooksAgain is of P16.2, PcWant: nothing is wanted of a word that is not what was seen any more.
func TestWantLooksAgain(t *testing.T) {
	var l []step
	for _, old := range []string{"---0", "---2", "-W-1", "--S0", "L-S1", "-WS3", "LWS0"} {
		for _, is := range texts() {
			if is != old {
				l = append(l, step{old + " is " + is, sees(old, is), goesTo(api.PcLoad), nil})
			}
		}
	}
	l = append(l, step{"behind all rounds", all(sees("L--0", "---0"), rounds(4)), goesTo(api.PcLoad), nil}, step{"alone", all(sees("L--0", "L--1"), alone), goesTo(api.PcLoad), nil}, step{"awake", all(sees("-W-0", "LW-0"), awake), goesTo(api.PcLoad), nil})
	steps(t, api.ALock, api.PcWant, l)
}

// sleeps has client 0 go to wait, by a word, since a time, to come first or not.
func sleeps(text string, since int, first bool) func(v view) {
	return func(v view) {
		v.m.Word, v.me.Own.Since, v.me.First, v.me.Pc = word(text), since, first, api.PcDraw
	}
}

// TestWantSleeps is of P16.2, PcWant: who neither goes round nor gets it goes to wait, for the first time or again.
func TestWantSleeps(t *testing.T) {
	last, since := rounds(4), func(since int) func(v view) { return func(v view) { v.me.Own.Since = since } }
	steps(t, api.ALock, api.PcWant, []step{
		{"locked", all(sees("L--0", "L--0"), last), sleeps("L--1", now, false), nil}, {"locked, alone", all(sees("L--0", "L--0"), alone), sleeps("L--1", now, false), nil}, {"locked, alone, a last time", all(sees("L--6", "L--6"), alone, rounds(3)), sleeps("L--7", now, false), nil},
		{"as many wait as may, but one", all(sees("L--268435454", "L--268435454"), last), sleeps("L--268435455", now, false), nil},
		{"starves", sees("--S1", "--S1"), sleeps("--S2", now, false), nil}, {"starves, locked", sees("L-S1", "L-S1"), sleeps("L-S2", now, false), nil}, {"starves, nobody waits", sees("--S0", "--S0"), sleeps("--S1", now, false), nil}, {"starves, somebody awake", sees("-WS1", "-WS1"), sleeps("-WS2", now, false), nil},
		{"again", all(sees("LW-1", "LW-1"), last, waits(7, false)), sleeps("L--2", 7, true), nil}, {"again, since 0", all(sees("LW-1", "LW-1"), last, waits(0, false)), sleeps("L--2", 0, true), nil}, {"again, since now", all(sees("LW-1", "LW-1"), last, waits(now, false)), sleeps("L--2", now, true), nil}, {"again, since later", all(sees("LW-1", "LW-1"), last, waits(mostTime, false)), sleeps("L--2", mostTime, true), nil},
		{"again, not awake", all(sees("L--1", "L--1"), last, since(7)), sleeps("L--2", 7, true), nil}, {"he starves", all(sees("LW-1", "LW-1"), last, waits(7, true)), sleeps("L-S2", 7, true), nil}, {"he starves, and it does", all(sees("-WS1", "-WS1"), waits(7, true)), sleeps("--S2", 7, true), nil},
		{"first was so", all(sees("L--0", "L--0"), last, func(v view) { v.me.First, v.me.Told = true, true }), sleeps("L--1", now, false), nil},
		{"at 0", all(sees("L--0", "L--0"), last, func(v view) { v.w.Now = 0 }), sleeps("L--1", 0, false), nil}, {"at the last time", all(sees("L--0", "L--0"), last, func(v view) { v.w.Now = mostTime }), sleeps("L--1", mostTime, false), nil},
	})
}

// TestWantBreaks is of P16.2, PcWant: words that do not fit together, and too many who wait; be the word still what was seen, or not.
func TestWantBreaks(t *testing.T) {
	var l []step
	for _, old := range []string{"---0", "---1", "--S1", "L-S2", "---268435455", "--S268435455"} {
		l = append(l, step{"awake by " + old, all(sees(old, old), awake), view.broken, nil}, step{"awake by " + old + ", another word", all(sees(old, "-W-0"), awake), view.broken, nil})
	}
	for _, old := range []string{"--S268435455", "L-S268435455", "-WS268435455", "LWS268435455"} {
		l = append(l, step{"too many by " + old, sees(old, old), view.broken, nil}, step{"too many by " + old + ", another word", sees(old, "---0"), view.broken, nil})
	}
	l = append(l, step{"too many, locked", all(sees("L--268435455", "L--268435455"), rounds(4)), view.broken, nil}, step{"too many, awake", all(sees("LW-268435455", "LW-268435455"), rounds(4), awake), view.broken, nil})
	steps(t, api.ALock, api.PcWant, l)
}

// tickets has the mutex have these.
func tickets(next, serve int) func(v view) {
	return func(v view) { v.m.Line = api.Ticket{Next: next, Serve: serve} }
}

// draws are the steps of drawing, to a place.
func draws(pc int) []step {
	draw := func(mine, next int) func(v view) {
		return func(v view) { v.m.Line.Next, v.me.Ticket, v.me.Pc = next, mine, pc }
	}
	return []step{
		{"the first", tickets(0, 0), draw(0, 1), nil}, {"another one", tickets(42, 40), draw(42, 43), nil}, {"the last number", tickets(mostTicket, 5), draw(mostTicket, 0), nil}, {"behind that", tickets(0, mostTicket), draw(0, 1), nil}, {"the last that is", tickets(5, 7), draw(5, 6), nil},
		{"none left", tickets(5, 6), view.broken, nil}, {"none left, at the ends", tickets(mostTicket, 0), view.broken, nil},
	}
}

// turns are the steps of awaiting one's turn, to a place.
func turns(pc int) []step {
	ticket := func(n int) func(v view) { return func(v view) { v.me.Ticket = n } }
	return []step{
		{"mine", all(tickets(42, 40), ticket(40)), goesTo(pc), nil}, {"behind mine", all(tickets(42, 40), ticket(41)), keep, nil}, {"mine was", all(tickets(42, 40), ticket(39)), keep, nil}, {"not drawn", all(tickets(42, 40), ticket(42)), keep, nil},
		{"0", all(tickets(1, 0), ticket(0)), goesTo(pc), nil}, {"the last number", all(tickets(0, mostTicket), ticket(mostTicket)), goesTo(pc), nil}, {"0 is ahead of the last number", all(tickets(0, mostTicket), ticket(0)), keep, nil}, {"mine, though none is out", all(tickets(7, 7), ticket(7)), goesTo(pc), nil},
	}
}

// TestTickets is of P16.2, PcDraw, PcTurn, PcDraws and PcTurns.
func TestTickets(t *testing.T) {
	steps(t, api.ALock, api.PcDraw, draws(api.PcTurn))
	steps(t, api.AUnlock, api.PcDraws, draws(api.PcTurns))
	steps(t, api.ALock, api.PcTurn, turns(api.PcSema))
	steps(t, api.AUnlock, api.PcTurns, turns(api.PcGrant))
}

// spots has the table have these: all but that of address 16 are the same in each.
func spots(l ...api.Spot) func(v view) {
	return func(v view) {
		v.w.Table = slices.Concat([]api.Spot{{Addr: 0, Count: 3}}, l, []api.Spot{{Addr: 24, Line: []int{2, 1, 0, 3, 4}}})
	}
}

func grants(n int) func(v view)   { return spots(api.Spot{Addr: addr, Count: n}) }
func queue(l ...int) func(v view) { return spots(api.Spot{Addr: addr, Line: l}) }
func first(v view)                { v.me.First = true }
func told(is bool) func(v view)   { return func(v view) { v.me.Told, v.me.Pc = is, api.PcServe } }
func rest(g api.Gor) func(v view) { return func(v view) { v.me.Gor = g } }
func others(who, state int, permit bool) func(v view) {
	return func(v view) { v.w.Clients[who].Gor = api.Gor{State: state, Permit: permit} }
}

// TestSema is of P16.2, PcSema: who is let through, who comes first or last, and who is there already.
func TestSema(t *testing.T) {
	steps(t, api.ALock, api.PcSema, []step{
		{"nothing there", spots(), all(queue(0), told(false)), nil}, {"nothing there, first", all(spots(), first), all(queue(0), told(false)), nil}, {"told was so", all(spots(), told(true), goesTo(api.PcSema)), all(queue(0), told(false)), nil},
		{"two ahead", queue(4, 1), all(queue(4, 1, 0), told(false)), nil}, {"two behind", all(queue(4, 1), first), all(queue(0, 4, 1), told(false)), nil}, {"all others", queue(4, 3, 2, 1), all(queue(4, 3, 2, 1, 0), told(false)), nil},
		{"a grant", grants(1), all(spots(), told(true)), nil}, {"a grant, first", all(grants(1), first), all(spots(), told(true)), nil}, {"grants", grants(2), all(grants(1), told(true)), nil}, {"as many as may be", grants(mostCount), all(grants(mostCount-1), told(true)), nil},
		{"there already", queue(0), view.broken, nil}, {"there already, first", all(queue(1, 0, 2), first), view.broken, nil},
	})
}

// TestServe is of P16.2, PcServe: who was let through goes on, who was not parks, unless he has a permit.
func TestServe(t *testing.T) {
	woken := func(serve int, g api.Gor) func(v view) {
		return all(func(v view) { v.m.Line.Serve = serve }, rest(g), goesTo(api.PcWoken))
	}
	runs, permit, parked := api.Gor{}, api.Gor{Permit: true}, api.Gor{State: api.GPark}
	steps(t, api.ALock, api.PcServe, []step{
		{"parks", tickets(42, 40), woken(41, parked), nil}, {"parks, goes round", tickets(0, mostTicket), woken(0, parked), nil}, {"has a permit", all(tickets(42, 40), rest(permit)), woken(41, runs), nil},
		{"told", all(tickets(42, 40), told(true)), woken(41, runs), nil}, {"told, and has a permit", all(tickets(42, 40), told(true), rest(permit)), woken(41, permit), nil}, {"first", all(tickets(42, 40), first), woken(41, parked), nil},
		{"none out", tickets(40, 40), view.broken, nil}, {"none out, told", all(tickets(mostTicket, mostTicket), told(true)), view.broken, nil},
	})
}

// TestWoken is of P16.2, PcWoken: by the word, and by how long he waits, up to the edges.
func TestWoken(t *testing.T) {
	var l []step
	for _, text := range texts() {
		awakes := func(v view) { v.me.Own.Old, v.me.Own.Awake, v.me.Own.Rounds, v.me.Pc = word(text), true, 0, api.PcWant }
		if text[2] == 'S' {
			awakes = func(v view) { v.me.Own.Old, v.me.Pc = word(text), api.PcHanded }
		}
		starves := all(awakes, func(v view) { v.me.Own.Starving = true })
		waits := func(since int) func(v view) {
			return func(v view) { v.m.Word, v.me.Own = word(text), api.Own{Since: since, Rounds: 4, Old: 44} }
		}
		l = append(l,
			step{text, waits(now), awakes, nil}, step{text + ", not yet late", waits(late + 1), awakes, nil}, step{text + ", late", waits(late), starves, nil}, step{text + ", since 0", waits(0), starves, nil},
			step{text + ", since later", waits(mostTime), awakes, nil}, step{text + ", does not wait", waits(-1), awakes, nil},
			step{text + ", starved", all(waits(now), func(v view) { v.me.Own.Starving = true }), starves, nil}, step{text + ", was awake", all(waits(now), awake), all(awakes, awake), nil})
	}
	steps(t, api.ALock, api.PcWoken, l)
}

// remembered has client 0 have been handed a mutex by a word, and starve or not.
func remembered(old string, starving bool) func(v view) {
	return func(v view) { v.me.Own.Since, v.me.Own.Old, v.me.Own.Starving = 9, word(old), starving }
}

// TestHanded is of P16.2, PcHanded: the word is changed whatever it is by now, if it stays one.
func TestHanded(t *testing.T) {
	got := func(text string) func(v view) { return all(says(text), view.over) }
	egot := []int{api.EGot}
	l := []step{
		{"starves, one more waits", all(remembered("--S2", true), says("--S2")), got("L-S1"), egot}, {"starves, the last one", all(remembered("--S1", true), says("--S1")), got("L--0"), egot}, {"does not starve", all(remembered("--S2", false), says("--S2")), got("L--1"), egot}, {"does not starve, the last one", all(remembered("--S1", false), says("--S1")), got("L--0"), egot},
		{"as many as may be", all(remembered("--S268435455", true), says("--S268435455")), got("L-S268435454"), egot}, {"others came", all(remembered("--S1", true), says("--S3")), got("L--2"), egot}, {"others came, and it starves on", all(remembered("--S2", true), says("--S3")), got("L-S2"), egot},
		{"it went", all(remembered("--S2", true), says("---0")), view.broken, nil}, {"it went, but one bit", all(remembered("--S2", true), says("LWS0")), all(says("---0"), view.over), egot}, {"one bit too few", all(remembered("--S2", true), says("-WS0")), view.broken, nil},
		{"eleven", all(remembered("--S2", false), says("-W-1")), view.broken, nil}, {"just eleven", all(remembered("--S2", false), says("LW-1")), all(says("---0"), view.over), egot}, {"too few, though another one", all(remembered("--S1", true), says("---1")), view.broken, nil},
	}
	for _, old := range []string{"L-S2", "-WS2", "LWS1", "L--1", "--S0", "---0", "-W-1"} {
		l = append(l, step{"by " + old, all(remembered(old, true), says(old)), view.broken, nil}, step{"by " + old + ", another word", all(remembered(old, false), says("--S2")), view.broken, nil})
	}
	steps(t, api.ALock, api.PcHanded, l)
}

// TestTryStart is of P16.2, ATry's PcStart: what is locked, or starves, is tried in vain.
func TestTryStart(t *testing.T) {
	var l []step
	for _, text := range texts() {
		if text[0] == 'L' || text[2] == 'S' {
			l = append(l, step{text, says(text), view.over, []int{api.ENo}})
			continue
		}
		l = append(l, step{text, says(text), func(v view) { v.me.Own.Old, v.me.Pc = word(text), api.PcTry }, nil})
	}
	steps(t, api.ATry, api.PcStart, l)
}

// TestTry is of P16.2, PcTry: the word is what was seen, or is not.
func TestTry(t *testing.T) {
	var l []step
	for _, old := range texts() {
		l = append(l, step{old, sees(old, old), all(says("L"+old[1:]), view.over), []int{api.ETry}})
		for _, is := range texts() {
			if is != old {
				l = append(l, step{old + " is " + is, sees(old, is), view.over, []int{api.ENo}})
			}
		}
	}
	steps(t, api.ATry, api.PcTry, l)
}

// TestUnlockStart is of P16.2, AUnlock's PcStart: what is free stops all; else it is free behind that, and done, or handed on, or looked at for who waits.
func TestUnlockStart(t *testing.T) {
	var l []step
	for _, text := range texts() {
		left := "-" + text[1:]
		switch {
		case text[0] != 'L':
			l = append(l, step{text, says(text), func(v view) { v.w.Stop = api.ErrFault }, []int{api.EFault}})
		case text == "L--0":
			l = append(l, step{text, says(text), all(says(left), view.over), []int{api.EGave}})
		case text[2] == 'S':
			l = append(l, step{text, says(text), all(says(left), goesTo(api.PcDraws)), []int{api.EGave}})
		default:
			l = append(l, step{text, says(text), all(sees(left, left), goesTo(api.PcGive)), []int{api.EGave}})
		}
	}
	steps(t, api.AUnlock, api.PcStart, l)
}

// TestGive is of P16.2, PcGive: nobody is to be woken; or somebody is, by the word that was seen, if it still is so.
func TestGive(t *testing.T) {
	woken := map[string]string{"---1": "-W-0", "---2": "-W-1", "---268435454": "-W-268435453", "---268435455": "-W-268435454"}
	var l []step
	for _, old := range texts() {
		for _, is := range texts() {
			s := step{old + " is " + is, sees(old, is), view.over, nil}
			if wakes := woken[old]; wakes != "" {
				s.behind = goesTo(api.PcSee)
				if is == old {
					s.behind = all(says(wakes), goesTo(api.PcDraws))
				}
			}
			l = append(l, s)
		}
	}
	steps(t, api.AUnlock, api.PcGive, l)
}

// TestGrant is of P16.2, PcGrant: it is kept, or goes to who is next, parked or not; who can't be told stops all.
func TestGrant(t *testing.T) {
	serves := goesTo(api.PcServes)
	steps(t, api.AUnlock, api.PcGrant, []step{
		{"nobody", spots(), all(grants(1), serves), nil}, {"one is kept", grants(1), all(grants(2), serves), nil}, {"the last that may be", grants(mostCount - 1), all(grants(mostCount), serves), nil}, {"too many", grants(mostCount), view.broken, nil},
		{"one that is parked", queue(1), all(spots(), others(1, api.GRun, false), serves), nil}, {"others behind", queue(1, 4, 2), all(queue(4, 2), others(1, api.GRun, false), serves), nil},
		{"one that runs", queue(4, 1), all(queue(1), others(4, api.GRun, true), serves), nil}, {"one that has a permit", all(queue(4, 1), others(4, api.GRun, true)), view.broken, nil}, {"one that is done", queue(3, 1), view.broken, nil},
		{"itself", queue(0, 1), all(queue(1), rest(api.Gor{Permit: true}), serves), nil}, {"itself, with a permit", all(queue(0), rest(api.Gor{Permit: true})), view.broken, nil},
	})
}

// TestServes is of P16.2, PcServes: the tickets are served, and the act is over.
func TestServes(t *testing.T) {
	serve := func(n int) func(v view) { return all(func(v view) { v.m.Line.Serve = n }, view.over) }
	steps(t, api.AUnlock, api.PcServes, []step{
		{"served", tickets(42, 40), serve(41), nil}, {"goes round", tickets(3, mostTicket), serve(0), nil}, {"with a permit", all(tickets(42, 40), rest(api.Gor{Permit: true})), serve(41), nil}, {"none out", tickets(40, 40), view.broken, nil},
	})
}

// TestEachMutex is of P16.2: the first step of locking, trying and giving back touches the act's mutex alone, and the event tells it; the grant is at its address.
func TestEachMutex(t *testing.T) {
	for m := range 4 {
		for _, x := range []struct{ kind, ahead, behind, event int }{{api.ALock, 0, 1, api.EGot}, {api.AUnlock, 1, 0, api.EGave}, {api.ATry, 1, 1, api.ENo}} {
			w := at(x.kind, api.PcStart)
			w.Progs[0][1].N, w.Mutexes[m].Word = m, x.ahead
			want := clone(w)
			look(&want).over()
			want.Mutexes[m].Word = x.behind
			if n, events, e := machine.Step(w, 0); e != api.OK || !same(n, want) || !slices.Equal(events, []api.Event{{Kind: x.event, Mutex: m}}) {
				t.Errorf("mutex %d, %v: %v, %v, %d", m, x, n, events, e)
			}
		}
		w := at(api.AUnlock, api.PcGrant)
		w.Progs[0][1].N, w.Table = m, nil
		if n, _, e := machine.Step(w, 0); e != api.OK || !sameTable(n.Table, []api.Spot{{Addr: 8 * m, Count: 1}}) {
			t.Errorf("mutex %d: %v, %d", m, n.Table, e)
		}
	}
}

// TestEvents is of P16.2: whoever steps, the event is theirs.
func TestEvents(t *testing.T) {
	for who := range 8 {
		l := make([][]api.Act, 8)
		l[who] = []api.Act{{Kind: api.ALock, N: 3}, {Kind: api.ATry, N: 3}, {Kind: api.AUnlock, N: 3}, {Kind: api.ATry, N: 1}, {Kind: api.AUnlock, N: 0}}
		w, _ := machine.New(l)
		var got []api.Event
		for range 6 {
			n, events, e := machine.Step(w, who)
			if e != api.OK {
				t.Fatal(e)
			}
			w, got = n, append(got, events...)
		}
		want := []api.Event{{Who: who, Kind: api.EGot, Mutex: 3}, {Who: who, Kind: api.ENo, Mutex: 3}, {Who: who, Kind: api.EGave, Mutex: 3}, {Who: who, Kind: api.ETry, Mutex: 1}, {Who: who, Kind: api.EFault, Mutex: 0}}
		if !slices.Equal(got, want) || w.Stop != api.ErrFault {
			t.Errorf("%d: %v, %d", who, got, w.Stop)
		}
	}
}

// endings are all ways in which an act is over: its kind, its place, and what makes it so.
func endings() []struct {
	kind, pc int
	ahead    func(v view)
} {
	return []struct {
		kind, pc int
		ahead    func(v view)
	}{
		{api.AWork, api.PcStart, works(0, 0)}, {api.AWork, api.PcStart, works(1, 0)}, {api.AWork, api.PcStart, works(1000, 999)},
		{api.ALock, api.PcStart, says("---0")}, {api.ALock, api.PcWant, sees("---3", "---3")}, {api.ALock, api.PcHanded, sees("--S2", "--S2")},
		{api.ATry, api.PcStart, says("L--0")}, {api.ATry, api.PcTry, sees("---0", "---0")}, {api.ATry, api.PcTry, sees("---0", "L--0")},
		{api.AUnlock, api.PcStart, says("L--0")}, {api.AUnlock, api.PcGive, sees("-W-1", "---1")}, {api.AUnlock, api.PcServes, tickets(42, 40)},
	}
}

// TestOver is of P16.2: wherever an act is over, nothing of it is left; who has a permit keeps it, unless there is no further act: then he is done, without one.
func TestOver(t *testing.T) {
	for i, x := range endings() {
		for _, permit := range []bool{false, true} {
			for _, last := range []bool{false, true} {
				w := at(x.kind, x.pc)
				w.Clients[0].Gor.Permit, w.Clients[0].First, w.Clients[0].Told, w.Clients[0].Ticket = permit, true, true, 5
				w.Clients[0].Own = api.Own{Since: 6, Starving: true, Rounds: 2, Old: 16}
				x.ahead(look(&w))
				want := api.Client{Gor: api.Gor{Permit: permit}, Act: 2, Own: fresh}
				if last {
					w.Progs[0] = w.Progs[0][:2]
					want.Gor = api.Gor{State: api.GDone}
				}
				n, _, e := machine.Step(w, 0)
				if e != api.OK || n.Clients[0] != want || n.Stop != api.OK || !machine.Right(n) {
					t.Errorf("%d, permit %v, last %v: %v, %d", i, permit, last, n.Clients[0], e)
				}
				if !slices.Equal(n.Clients[1:], w.Clients[1:]) {
					t.Errorf("%d: others: %v", i, n.Clients)
				}
			}
		}
	}
}
