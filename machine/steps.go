package machine

import (
	"deadbolt/api"
	"deadbolt/flags"
	"deadbolt/give"
	"deadbolt/grab"
	"deadbolt/park"
	"deadbolt/sema"
	"deadbolt/spin"
)

// place is where a client is within an act of a kind.
type place struct {
	kind int
	pc   int
}

// turn is a step of a client, in a world of its own, and what it brings about.
type turn struct {
	world  api.World
	who    int
	self   *api.Client
	act    api.Act
	events []api.Event
}

// steps are those of all places; where there is none, nobody may be.
func steps() map[place]func(*turn) {
	return map[place]func(*turn){
		{api.AWork, api.PcStart}:    (*turn).work,
		{api.ALock, api.PcStart}:    (*turn).lock,
		{api.ALock, api.PcLoad}:     (*turn).load,
		{api.ALock, api.PcWant}:     (*turn).want,
		{api.ALock, api.PcDraw}:     (*turn).draw,
		{api.ALock, api.PcTurn}:     (*turn).await,
		{api.ALock, api.PcSema}:     (*turn).ask,
		{api.ALock, api.PcServe}:    (*turn).sleep,
		{api.ALock, api.PcWoken}:    (*turn).wake,
		{api.ALock, api.PcHanded}:   (*turn).take,
		{api.ATry, api.PcStart}:     (*turn).look,
		{api.ATry, api.PcTry}:       (*turn).grasp,
		{api.AUnlock, api.PcStart}:  (*turn).unlock,
		{api.AUnlock, api.PcGive}:   (*turn).give,
		{api.AUnlock, api.PcSee}:    (*turn).see,
		{api.AUnlock, api.PcDraws}:  (*turn).draw,
		{api.AUnlock, api.PcTurns}:  (*turn).await,
		{api.AUnlock, api.PcGrant}:  (*turn).grant,
		{api.AUnlock, api.PcServes}: (*turn).leave,
	}
}

// turnOf is one of a client that can go on.
func turnOf(w api.World, who int) *turn {
	t := &turn{world: copied(w), who: who}
	t.self = &t.world.Clients[who]
	t.act = t.world.Progs[who][t.self.Act]
	return t
}

// try makes the step, or tells why all stops instead; then the turn's world is left half done.
func (t *turn) try() (stop api.Errno) {
	defer func() {
		if wrong := recover(); wrong != nil {
			stop = wrong.(api.Errno) // need alone panics here
		}
	}()
	steps()[place{t.act.Kind, t.self.Pc}](t)
	return api.OK
}

// need stops all where something is not so.
func need(is bool, stop api.Errno) {
	if !is {
		panic(stop)
	}
}

// sure is what a call answers, if it is not refused.
func sure[A any](answer A, why api.Errno) A {
	need(why == api.OK, api.ErrBroken)
	return answer
}

// both is the two things that a call answers, if it is not refused.
func both[A, B any](one A, other B, why api.Errno) (A, B) {
	return one, sure(other, why)
}

// mutex is the one that the act is about.
func (t *turn) mutex() *api.Mutex {
	return &t.world.Mutexes[t.act.N]
}

// address is the one at which that mutex's grants are.
func (t *turn) address() int {
	return width * t.act.N
}

// tell says what came about.
func (t *turn) tell(kind int) {
	t.events = append(t.events, api.Event{Who: t.who, Kind: kind, Mutex: t.act.N})
}

// over ends the act.
func (t *turn) over() {
	begin(&t.world, t.who, t.self.Act+1)
}

// ends tells what the act came to, and ends it.
func (t *turn) ends(kind int) {
	t.tell(kind)
	t.over()
}

// put changes the mutex's word.
func (t *turn) put(word int) {
	_, e := flags.Unpack(word)
	need(e == api.OK, api.ErrBroken)
	t.mutex().Word = word
}

// swaps changes the mutex's word, if it still is what was seen, and tells whether it was.
func (t *turn) swaps(word int) bool {
	is := t.mutex().Word == t.self.Own.Old
	if is {
		t.put(word)
	}
	return is
}

// remember goes on to a place with the mutex's word in mind.
func (t *turn) remember(pc int) {
	t.self.Own.Old = t.mutex().Word
	t.self.Pc = pc
}

func (t *turn) work() {
	t.self.Worked++
	if t.self.Worked >= t.act.N {
		t.over()
	}
}

// lock gets a mutex at once that nobody has to do with.
func (t *turn) lock() {
	if t.mutex().Word != 0 {
		t.self.Pc = api.PcLoad
		return
	}
	t.put(api.Locked)
	t.ends(api.EGot)
}

func (t *turn) load() {
	t.remember(api.PcWant)
}

// want has the mutex, or goes to wait, unless the client goes round or the word is another one by now.
func (t *turn) want() {
	runs := sure(park.Runnable(gors(t.world.Clients)))
	if sure(grab.Spins(t.self.Own, len(runs))) {
		t.goRound()
		return
	}
	// What he wants is asked first: it can be refused whatever the word is by now.
	if !t.swaps(sure(grab.Wants(t.self.Own))) {
		t.self.Pc = api.PcLoad
		return
	}
	if sure(grab.Got(t.self.Own)) {
		t.ends(api.EGot)
		return
	}
	t.self.Own, t.self.First = both(grab.Sleep(t.self.Own, t.world.Now))
	t.self.Pc = api.PcDraw
}

// goRound says in the word, where that is to be said, that somebody is awake, so that nobody is woken meanwhile.
func (t *turn) goRound() {
	own := &t.self.Own
	if sure(grab.Wakes(*own)) && t.swaps(own.Old|api.Woken) {
		own.Awake = true
	}
	own.Rounds++
	t.self.Pc = api.PcLoad
}

func (t *turn) draw() {
	m := t.mutex()
	m.Line, t.self.Ticket = both(spin.Draw(m.Line))
	t.self.Pc++ // PcTurn or PcTurns
}

func (t *turn) await() {
	if sure(spin.Turn(t.mutex().Line, t.self.Ticket)) {
		t.self.Pc++ // PcSema or PcGrant
	}
}

// serve lets the next ticket have its turn.
func (t *turn) serve() {
	m := t.mutex()
	m.Line = sure(spin.Done(m.Line))
}

func (t *turn) ask() {
	t.world.Table, t.self.Told = both(sema.Acquire(t.world.Table, t.address(), t.who, t.self.First))
	t.self.Pc = api.PcServe
}

func (t *turn) sleep() {
	t.serve()
	if !t.self.Told {
		changeGor(&t.world, t.who, park.Park)
	}
	t.self.Pc = api.PcWoken
}

func (t *turn) wake() {
	own, handed := both(grab.Wake(t.self.Own, t.world.Now, t.mutex().Word))
	t.self.Own = own
	t.self.Pc = api.PcWant
	if handed {
		t.self.Pc = api.PcHanded
	}
}

// take changes the word whatever it is by now, as the mutex is for nobody else.
func (t *turn) take() {
	t.put(t.mutex().Word + sure(grab.Handed(t.self.Own)))
	t.ends(api.EGot)
}

func (t *turn) look() {
	if seen := sure(flags.Unpack(t.mutex().Word)); seen.Locked || seen.Starving {
		t.ends(api.ENo)
		return
	}
	t.remember(api.PcTry)
}

func (t *turn) grasp() {
	if t.swaps(t.self.Own.Old | api.Locked) {
		t.ends(api.ETry)
		return
	}
	t.ends(api.ENo)
}

// unlock gives the mutex back at once; what follows is for those who wait.
func (t *turn) unlock() {
	left := t.mutex().Word - api.Locked
	done, handed, why := give.Left(left)
	need(why != api.ErrFault, api.ErrFault)
	need(why == api.OK, api.ErrBroken)
	t.put(left)
	t.tell(api.EGave)
	switch {
	case done:
		t.over()
	case handed:
		t.self.Pc = api.PcDraws
	default:
		t.remember(api.PcGive)
	}
}

// give wakes somebody for the mutex, unless others see to that.
func (t *turn) give() {
	wakes, word := both(give.Wakes(t.self.Own.Old))
	switch {
	case !wakes:
		t.over()
	case t.swaps(word):
		t.self.Pc = api.PcDraws
	default:
		t.self.Pc = api.PcSee
	}
}

func (t *turn) see() {
	t.remember(api.PcGive)
}

func (t *turn) grant() {
	table, next := both(sema.Release(t.world.Table, t.address()))
	t.world.Table = table
	if next != api.Nil {
		changeGor(&t.world, next, park.Ready)
	}
	t.self.Pc = api.PcServes
}

func (t *turn) leave() {
	t.serve()
	t.over()
}
