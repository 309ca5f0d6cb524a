package machine_test

import (
	"math/rand"
	"slices"
	"testing"

	"deadbolt/api"
	"deadbolt/machine"
)

// noEvent is the kind of an event that there is not.
const noEvent = -1

// model is a step as the chapter's list says it, by numbers alone: it changes the world, and tells the event's kind, and why all stops, if it does.
type model struct {
	w     *api.World
	who   int
	act   api.Act
	event int
	stop  api.Errno
}

func (m *model) me() *api.Client   { return &m.w.Clients[m.who] }
func (m *model) word() *int        { return &m.w.Mutexes[m.act.N].Word }
func (m *model) line() *api.Ticket { return &m.w.Mutexes[m.act.N].Line }

func locked(word int) bool   { return word%2 == 1 }
func woken(word int) bool    { return word/2%2 == 1 }
func starving(word int) bool { return word/4%2 == 1 }
func waiters(word int) int   { return word / 8 }

// modelStep is the world behind a step of who is there, and goes on, in a world that may be and goes on.
func modelStep(w api.World, who int) (api.World, []api.Event) {
	n := clone(w)
	m := &model{w: &n, who: who, act: n.Progs[who][n.Clients[who].Act], event: noEvent}
	switch {
	case m.act.Kind == api.AWork:
		m.me().Worked++
		if m.me().Worked == m.act.N || m.act.N == 0 {
			m.over(noEvent)
		}
	case m.act.Kind == api.ALock:
		m.lock()
	case m.act.Kind == api.ATry:
		m.try()
	default:
		m.unlock()
	}
	if m.stop != api.OK {
		n = clone(w)
		n.Stop = m.stop
	}
	if m.event == noEvent || m.stop == api.ErrBroken {
		return n, nil
	}
	return n, []api.Event{{Who: who, Kind: m.event, Mutex: m.act.N}}
}

func (m *model) over(event int) {
	c := m.me()
	m.event = event
	*c = api.Client{Gor: c.Gor, Act: c.Act + 1, Own: api.Own{Since: -1}}
	if c.Act == len(m.w.Progs[m.who]) {
		c.Gor = api.Gor{State: api.GDone}
	}
}

func (m *model) lock() {
	c, w := m.me(), m.word()
	switch c.Pc {
	case api.PcStart:
		c.Pc = api.PcLoad
		if *w == 0 {
			*w = 1
			m.over(api.EGot)
		}
	case api.PcLoad:
		c.Own.Old, c.Pc = *w, api.PcWant
	case api.PcWant:
		m.want()
	case api.PcDraw, api.PcTurn:
		m.tickets()
	case api.PcSema:
		m.sema()
	case api.PcServe:
		m.serve()
		switch {
		case c.Told:
		case c.Gor.Permit:
			c.Gor.Permit = false
		default:
			c.Gor.State = api.GPark
		}
		c.Pc = api.PcWoken
	case api.PcWoken:
		if c.Own.Since >= 0 && m.w.Now-c.Own.Since > thresh {
			c.Own.Starving = true
		}
		c.Own.Old, c.Pc = *w, api.PcHanded
		if !starving(*w) {
			c.Own.Awake, c.Own.Rounds, c.Pc = true, 0, api.PcWant
		}
	case api.PcHanded:
		m.handed()
	}
}

func (m *model) want() {
	c, w, runs := m.me(), m.word(), 0
	for _, other := range m.w.Clients {
		if other.Gor.State == api.GRun {
			runs++
		}
	}
	old := c.Own.Old
	if locked(old) && !starving(old) && c.Own.Rounds < 4 && runs > 1 {
		if !c.Own.Awake && !woken(old) && waiters(old) > 0 && *w == old {
			*w += 2
			c.Own.Awake = true
		}
		c.Own.Rounds++
		c.Pc = api.PcLoad
		return
	}
	held, n := locked(old) || starving(old), old
	if c.Own.Awake && !woken(old) || held && waiters(old) == mostWaiters {
		m.stop = api.ErrBroken
		return
	}
	if !locked(old) && !starving(old) {
		n++
	}
	if held {
		n += 8
	}
	if c.Own.Starving && locked(old) && !starving(old) {
		n += 4
	}
	if c.Own.Awake {
		n -= 2
	}
	switch {
	case *w != old:
		c.Pc = api.PcLoad
	case !held:
		*w = n
		m.over(api.EGot)
	default:
		*w = n
		c.First = c.Own.Since != -1
		if !c.First {
			c.Own.Since = m.w.Now
		}
		c.Pc = api.PcDraw
	}
}

func (m *model) tickets() {
	c, l := m.me(), m.line()
	if c.Pc == api.PcTurn || c.Pc == api.PcTurns {
		if l.Serve == c.Ticket {
			c.Pc++
		}
		return
	}
	if (l.Next+1)%(1<<32) == l.Serve {
		m.stop = api.ErrBroken
		return
	}
	c.Ticket, l.Next = l.Next, (l.Next+1)%(1<<32)
	c.Pc++
}

func (m *model) serve() {
	l := m.line()
	if l.Next == l.Serve {
		m.stop = api.ErrBroken
	}
	l.Serve = (l.Serve + 1) % (1 << 32)
}

// spot is that of the mutex's address, empty if there is none.
func (m *model) spot() api.Spot {
	for _, s := range m.w.Table {
		if s.Addr == 8*m.act.N {
			return s
		}
	}
	return api.Spot{Addr: 8 * m.act.N}
}

// set puts a spot in its place; mutexes' addresses stand in the order of their numbers.
func (m *model) set(s api.Spot) {
	l := slices.DeleteFunc(m.w.Table, func(x api.Spot) bool { return x.Addr == s.Addr })
	if s.Count != 0 || len(s.Line) != 0 {
		l = append(l, s)
	}
	slices.SortFunc(l, func(a, b api.Spot) int { return a.Addr - b.Addr })
	m.w.Table = l
}

func (m *model) sema() {
	c, s := m.me(), m.spot()
	if slices.Contains(s.Line, m.who) {
		m.stop = api.ErrBroken
		return
	}
	c.Told, c.Pc = s.Count > 0, api.PcServe
	switch {
	case c.Told:
		s.Count--
	case c.First:
		s.Line = slices.Insert(s.Line, 0, m.who)
	default:
		s.Line = append(s.Line, m.who)
	}
	m.set(s)
}

func (m *model) handed() {
	c, w := m.me(), m.word()
	old := c.Own.Old
	change := -7
	if !c.Own.Starving || waiters(old) == 1 {
		change = -11
	}
	if locked(old) || woken(old) || waiters(old) == 0 || *w+change < 0 {
		m.stop = api.ErrBroken
		return
	}
	*w += change
	m.over(api.EGot)
}

func (m *model) try() {
	c, w := m.me(), m.word()
	switch {
	case c.Pc == api.PcStart && (locked(*w) || starving(*w)):
		m.over(api.ENo)
	case c.Pc == api.PcStart:
		c.Own.Old, c.Pc = *w, api.PcTry
	case *w == c.Own.Old:
		if !locked(*w) {
			*w++
		}
		m.over(api.ETry)
	default:
		m.over(api.ENo)
	}
}

func (m *model) unlock() {
	c, w := m.me(), m.word()
	switch c.Pc {
	case api.PcStart:
		m.giveBack()
	case api.PcGive:
		old := c.Own.Old
		switch {
		case waiters(old) == 0 || locked(old) || woken(old) || starving(old):
			m.over(noEvent)
		case *w == old:
			*w += 2 - 8
			c.Pc = api.PcDraws
		default:
			c.Pc = api.PcSee
		}
	case api.PcSee:
		c.Own.Old, c.Pc = *w, api.PcGive
	case api.PcDraws, api.PcTurns:
		m.tickets()
	case api.PcGrant:
		m.grant()
	case api.PcServes:
		m.serve()
		m.over(noEvent)
	}
}

func (m *model) giveBack() {
	c, w := m.me(), m.word()
	if !locked(*w) {
		m.stop, m.event = api.ErrFault, api.EFault
		return
	}
	*w--
	m.event = api.EGave
	switch {
	case *w == 0:
		m.over(api.EGave)
	case starving(*w):
		c.Pc = api.PcDraws
	default:
		c.Own.Old, c.Pc = *w, api.PcGive
	}
}

func (m *model) grant() {
	m.me().Pc = api.PcServes
	s := m.spot()
	if len(s.Line) == 0 {
		if s.Count == mostCount {
			m.stop = api.ErrBroken
		}
		s.Count++
		m.set(s)
		return
	}
	g := &m.w.Clients[s.Line[0]].Gor
	switch {
	case g.State == api.GDone || g.Permit:
		m.stop = api.ErrBroken
	case g.State == api.GRun:
		g.Permit = true
	default:
		g.State = api.GRun
	}
	s.Line = s.Line[1:]
	m.set(s)
}

// pick is one of some numbers.
func pick(r *rand.Rand, l ...int) int { return l[r.Intn(len(l))] }

// anyWord is a word: mostly a small one, sometimes one at the ends.
func anyWord(r *rand.Rand) int {
	return r.Intn(8) + 8*pick(r, 0, 0, 1, 1, 2, 3, mostWaiters-1, mostWaiters)
}

// anyActs is a program that may be.
func anyActs(r *rand.Rand) []api.Act {
	var l []api.Act
	for range r.Intn(4) {
		a := api.Act{Kind: r.Intn(4), N: r.Intn(2)}
		if a.Kind == api.AWork {
			a.N = pick(r, 0, 1, 2, 3, 1000)
		}
		l = append(l, a)
	}
	return l
}

// anyTickets are such as may be: often few are out, or as many as may be.
func anyTickets(r *rand.Rand) api.Ticket {
	next := pick(r, 0, 1, 2, mostTicket-1, mostTicket)
	return api.Ticket{Next: next, Serve: (next + 1<<32 - pick(r, 0, 0, 1, 2, mostTicket-1, mostTicket)) % (1 << 32)}
}

// anyClient is one that may be, with a program.
func anyClient(r *rand.Rand, acts []api.Act, now int) api.Client {
	c := api.Client{Act: r.Intn(len(acts) + 1), Ticket: pick(r, 0, 1, 2, mostTicket-1, mostTicket), First: r.Intn(2) == 0, Told: r.Intn(2) == 0}
	c.Own = api.Own{Since: pick(r, -1, 0, now, mostTime, max(0, now-thresh), max(0, now-thresh-1)), Starving: r.Intn(2) == 0, Awake: r.Intn(3) == 0, Rounds: r.Intn(5), Old: anyWord(r)}
	if c.Act == len(acts) {
		c.Gor.State = api.GDone
		return c
	}
	c.Gor = pickGor(r)
	switch a := acts[c.Act]; a.Kind {
	case api.ALock:
		c.Pc = r.Intn(9)
	case api.ATry:
		c.Pc = pick(r, 0, 9)
	case api.AUnlock:
		c.Pc = pick(r, 0, 10, 11, 12, 13, 14, 15)
	case api.AWork:
		c.Worked = pick(r, 0, max(a.N-1, 0), r.Intn(max(a.N, 1)))
	}
	return c
}

func pickGor(r *rand.Rand) api.Gor {
	return []api.Gor{{}, {}, {}, {Permit: true}, {State: api.GPark}}[r.Intn(5)]
}

// anyTable is one that may be, of so many clients.
func anyTable(r *rand.Rand, clients int) []api.Spot {
	var l []api.Spot
	for m := range 4 {
		s := api.Spot{Addr: 8 * m}
		switch r.Intn(3) {
		case 1:
			s.Count = pick(r, 1, 2, mostCount-1, mostCount)
		case 2:
			s.Line = r.Perm(clients)[:r.Intn(clients+1)]
		}
		if s.Count > 0 || len(s.Line) > 0 {
			l = append(l, s)
		}
	}
	return l
}

// anyWorld is one that may be, though hardly one that comes of a new one; half of who remembers a word remember that of a mutex.
func anyWorld(r *rand.Rand) api.World {
	w := api.World{Now: pick(r, 0, 1, thresh, thresh+1, 5*thresh, mostTime)}
	for range 4 {
		w.Mutexes = append(w.Mutexes, api.Mutex{Word: anyWord(r), Line: anyTickets(r)})
	}
	for range r.Intn(9) {
		w.Progs = append(w.Progs, anyActs(r))
	}
	for _, acts := range w.Progs {
		c := anyClient(r, acts, w.Now)
		if m := w.Mutexes[r.Intn(2)]; r.Intn(2) == 0 {
			c.Own.Old, c.Ticket = m.Word, m.Line.Serve
		}
		w.Clients = append(w.Clients, c)
	}
	w.Table = anyTable(r, len(w.Progs))
	return w
}

// TestSteps is of P16.1 and P16.2: in worlds of all kinds, whoever can go on makes the chapter's step, and nothing else is changed; the world behind it may be.
func TestSteps(t *testing.T) {
	r := rand.New(rand.NewSource(16))
	made, stops := map[[2]int]int{}, map[api.Errno]int{}
	for range 40000 {
		w := anyWorld(r)
		was := clone(w)
		if !machine.Right(w) {
			t.Fatalf("%v may be", w)
		}
		for who, c := range w.Clients {
			if c.Gor.State != api.GRun {
				continue
			}
			want, events := modelStep(w, who)
			n, got, e := machine.Step(w, who)
			if e != api.OK || !same(n, want) || !slices.Equal(got, events) || !machine.Right(n) {
				t.Fatalf("%d steps in\n%v:\n%v, %v, %d, not\n%v, %v", who, w, n, got, e, want, events)
			}
			made[[2]int{w.Progs[who][c.Act].Kind, c.Pc}]++
			stops[n.Stop]++
		}
		unchanged(t, "Step", w, was)
	}
	if len(made) != 19 || len(stops) != 3 {
		t.Errorf("places %v, stops %v", made, stops)
	}
}
