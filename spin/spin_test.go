package spin_test

import (
	"math"
	"slices"
	"testing"

	"deadbolt/api"
	"deadbolt/spin"
)

const (
	mostU32  = 1<<32 - 1
	power32  = 1 << 32
	half     = 1 << 31
	leastInt = math.MinInt
	mostInt  = math.MaxInt
)

// numbers are tickets' least and greatest ones, those next to them, those around the middle, and some between.
func numbers() []int {
	return []int{0, 1, 2, 3, 4, 5, 7, 1000, half - 2, half - 1, half, half + 1, half + 2, 0x5555_5555, 0xAAAA_AAAA, 0xF000_0002, mostU32 - 3, mostU32 - 2, mostU32 - 1, mostU32}
}

// noNumbers are the first on either side that are no ticket's, and those that would be, were their high bits left out.
func noNumbers() []int {
	return []int{-1, -2, -5, -half, -mostU32, -power32, -power32 + 7, power32, power32 + 1, power32 + 7, 2*power32 - 1, 1 << 62, leastInt, leastInt + 1, leastInt + 7, mostInt - 1, mostInt}
}

// around is all tickets of numbers.
func around() []api.Ticket {
	var l []api.Ticket
	for _, next := range numbers() {
		for _, serve := range numbers() {
			l = append(l, api.Ticket{Next: next, Serve: serve})
		}
	}
	return l
}

// outOf counts from the one that is served to the one that is drawn next, beyond the last one if need be.
func outOf(t api.Ticket) int {
	if t.Next < t.Serve {
		return power32 - t.Serve + t.Next
	}
	return t.Next - t.Serve
}

// behind is the number that comes behind one.
func behind(n int) int { return (n + 1) % power32 }

// TestApi is of P6.1: the bound is the one that package api names.
func TestApi(t *testing.T) {
	if api.MaxSpins != 4 {
		t.Error(api.MaxSpins)
	}
}

// TestCanAtEdges is of P6.1 and P1: rounds of 3 and 4, runnable of 1 and 2, 0 and less, the least and the greatest ints, and both wrong at once.
func TestCanAtEdges(t *testing.T) {
	for i, x := range []struct {
		rounds, runnable int
		want             bool
		why              api.Errno
	}{
		{0, 2, true, api.OK}, {1, 2, true, api.OK}, {2, 2, true, api.OK}, {3, 2, true, api.OK}, {4, 2, false, api.OK}, {5, 2, false, api.OK},
		{3, 0, false, api.OK}, {3, 1, false, api.OK}, {3, 3, true, api.OK}, {4, 0, false, api.OK}, {4, 1, false, api.OK}, {4, 3, false, api.OK},
		{0, 0, false, api.OK}, {0, 1, false, api.OK}, {0, 8, true, api.OK}, {3, 8, true, api.OK}, {3, 9, true, api.OK}, {4, 8, false, api.OK},
		{3, mostInt, true, api.OK}, {4, mostInt, false, api.OK}, {mostInt, 0, false, api.OK}, {mostInt, 2, false, api.OK}, {mostInt, mostInt, false, api.OK}, {power32, power32, false, api.OK}, {power32 + 1, 2, false, api.OK}, {1, power32 + 1, true, api.OK},
		{-1, 2, false, api.ErrArg}, {-1, 0, false, api.ErrArg}, {0, -1, false, api.ErrArg}, {3, -1, false, api.ErrArg}, {4, -1, false, api.ErrArg}, {-1, 1, false, api.ErrArg}, {-1, -1, false, api.ErrArg},
		{leastInt, 2, false, api.ErrArg}, {0, leastInt, false, api.ErrArg}, {leastInt, leastInt, false, api.ErrArg}, {leastInt, mostInt, false, api.ErrArg}, {mostInt, leastInt, false, api.ErrArg}, {mostInt, -1, false, api.ErrArg}, {-1, mostInt, false, api.ErrArg},
		{-power32, 2, false, api.ErrArg}, {0, -power32 + 2, false, api.ErrArg},
	} {
		if is, e := spin.Can(x.rounds, x.runnable); is != x.want || e != x.why {
			t.Errorf("%d: Can(%d, %d) = %v, %d", i, x.rounds, x.runnable, is, e)
		}
	}
}

// TestCan is of P6.1: all small numbers, either side of 0.
func TestCan(t *testing.T) {
	for rounds := -20; rounds <= 20; rounds++ {
		for runnable := -20; runnable <= 20; runnable++ {
			want, why := false, api.ErrArg
			if rounds >= 0 && runnable >= 0 {
				want, why = slices.Contains([]int{0, 1, 2, 3}, rounds) && !slices.Contains([]int{0, 1}, runnable), api.OK
			}
			if is, e := spin.Can(rounds, runnable); is != want || e != why {
				t.Errorf("Can(%d, %d) = %v, %d", rounds, runnable, is, e)
			}
		}
	}
}

// TestRight is of P6.1: all tickets of words may be, however many are out.
func TestRight(t *testing.T) {
	for _, x := range around() {
		if !spin.Right(x) {
			t.Errorf("%v may be", x)
		}
	}
}

// checkWrong holds that all calls find that tickets may not be, and tell nothing beside it.
func checkWrong(t *testing.T, x api.Ticket) {
	t.Helper()
	if spin.Right(x) {
		t.Errorf("%v may not be", x)
	}
	if after, mine, e := spin.Draw(x); after != (api.Ticket{}) || mine != 0 || e != api.ErrArg {
		t.Errorf("Draw(%v) = %v, %d, %d", x, after, mine, e)
	}
	for _, mine := range []int{x.Serve, x.Next, 0, 1, -1, mostU32, power32, leastInt, mostInt} {
		if is, e := spin.Turn(x, mine); is || e != api.ErrArg {
			t.Errorf("Turn(%v, %d) = %v, %d", x, mine, is, e)
		}
	}
	if after, e := spin.Done(x); after != (api.Ticket{}) || e != api.ErrArg {
		t.Errorf("Done(%v) = %v, %d", x, after, e)
	}
	if n, e := spin.Out(x); n != 0 || e != api.ErrArg {
		t.Errorf("Out(%v) = %d, %d", x, n, e)
	}
}

// TestWrongTickets is of P6.1 and P1: Next, Serve, or both are no words; that is told ahead of tickets of which all or none are out.
func TestWrongTickets(t *testing.T) {
	for _, no := range noNumbers() {
		for _, n := range numbers() {
			checkWrong(t, api.Ticket{Next: no, Serve: n})
			checkWrong(t, api.Ticket{Next: n, Serve: no})
		}
		for _, other := range noNumbers() {
			checkWrong(t, api.Ticket{Next: no, Serve: other})
		}
		checkWrong(t, api.Ticket{Next: no, Serve: no + 1})
	}
}

// TestOutAtEdges is of P6.2: none, one, and all but one that may be out, where they go round, and next to it.
func TestOutAtEdges(t *testing.T) {
	for i, x := range []struct{ next, serve, want int }{
		{0, 0, 0}, {1, 1, 0}, {half, half, 0}, {mostU32 - 1, mostU32 - 1, 0}, {mostU32, mostU32, 0},
		{1, 0, 1}, {2, 1, 1}, {half, half - 1, 1}, {mostU32, mostU32 - 1, 1}, {0, mostU32, 1}, {1, mostU32, 2}, {0, mostU32 - 1, 2}, {5, mostU32 - 4, 10},
		{half, 0, half}, {half - 1, mostU32, half}, {0, half, half}, {0, half + 1, half - 1}, {0, half - 1, half + 1},
		{mostU32, 0, mostU32}, {0, 1, mostU32}, {4, 5, mostU32}, {half - 1, half, mostU32}, {mostU32 - 1, mostU32, mostU32}, {mostU32, 1, mostU32 - 1}, {0, 2, mostU32 - 1}, {mostU32 - 1, 0, mostU32 - 1}, {mostU32 - 2, mostU32, mostU32 - 1},
	} {
		if n, e := spin.Out(api.Ticket{Next: x.next, Serve: x.serve}); n != x.want || e != api.OK {
			t.Errorf("%d: Out({%d, %d}) = %d, %d", i, x.next, x.serve, n, e)
		}
	}
}

// TestOut is of P6.2: many tickets, counted one way round.
func TestOut(t *testing.T) {
	for _, x := range around() {
		if n, e := spin.Out(x); n != outOf(x) || e != api.OK {
			t.Errorf("Out(%v) = %d, %d, not %d", x, n, e, outOf(x))
		}
	}
}

// TestDrawAtEdges is of P6.2: tickets that go round, the last one that is drawn, and none any more.
func TestDrawAtEdges(t *testing.T) {
	for i, x := range []struct {
		from, after api.Ticket
		mine        int
		why         api.Errno
	}{
		{api.Ticket{}, api.Ticket{Next: 1}, 0, api.OK}, {api.Ticket{Next: 1}, api.Ticket{Next: 2}, 1, api.OK}, {api.Ticket{Next: 7, Serve: 3}, api.Ticket{Next: 8, Serve: 3}, 7, api.OK},
		{api.Ticket{Next: mostU32 - 1, Serve: mostU32 - 1}, api.Ticket{Next: mostU32, Serve: mostU32 - 1}, mostU32 - 1, api.OK}, {api.Ticket{Next: mostU32, Serve: mostU32}, api.Ticket{Next: 0, Serve: mostU32}, mostU32, api.OK}, {api.Ticket{Next: mostU32, Serve: 7}, api.Ticket{Next: 0, Serve: 7}, mostU32, api.OK},
		{api.Ticket{Next: 0, Serve: mostU32}, api.Ticket{Next: 1, Serve: mostU32}, 0, api.OK}, {api.Ticket{Next: half - 1, Serve: half - 1}, api.Ticket{Next: half, Serve: half - 1}, half - 1, api.OK},
		{api.Ticket{Next: mostU32 - 1, Serve: 0}, api.Ticket{Next: mostU32, Serve: 0}, mostU32 - 1, api.OK}, {api.Ticket{Next: mostU32, Serve: 1}, api.Ticket{Next: 0, Serve: 1}, mostU32, api.OK}, {api.Ticket{Next: 0, Serve: 2}, api.Ticket{Next: 1, Serve: 2}, 0, api.OK}, {api.Ticket{Next: mostU32 - 2, Serve: mostU32}, api.Ticket{Next: mostU32 - 1, Serve: mostU32}, mostU32 - 2, api.OK},
		{api.Ticket{Next: mostU32, Serve: 0}, api.Ticket{}, 0, api.ErrFull}, {api.Ticket{Next: 0, Serve: 1}, api.Ticket{}, 0, api.ErrFull}, {api.Ticket{Next: 4, Serve: 5}, api.Ticket{}, 0, api.ErrFull}, {api.Ticket{Next: half - 1, Serve: half}, api.Ticket{}, 0, api.ErrFull}, {api.Ticket{Next: mostU32 - 1, Serve: mostU32}, api.Ticket{}, 0, api.ErrFull},
	} {
		if after, mine, e := spin.Draw(x.from); after != x.after || mine != x.mine || e != x.why {
			t.Errorf("%d: Draw(%v) = %v, %d, %d", i, x.from, after, mine, e)
		}
	}
}

// TestDraw is of P6.2: Next is told, one more stands there, and Serve stays; where all are out, nothing is told.
func TestDraw(t *testing.T) {
	for _, x := range around() {
		want, number, why := api.Ticket{Next: behind(x.Next), Serve: x.Serve}, x.Next, api.OK
		if outOf(x) == mostU32 {
			want, number, why = api.Ticket{}, 0, api.ErrFull
		}
		if after, mine, e := spin.Draw(x); after != want || mine != number || e != why {
			t.Errorf("Draw(%v) = %v, %d, %d, not %v, %d, %d", x, after, mine, e, want, number, why)
		}
	}
}

// TestDoneAtEdges is of P6.2: tickets that go round, none out, one out, and all that may be.
func TestDoneAtEdges(t *testing.T) {
	for i, x := range []struct {
		from, after api.Ticket
		why         api.Errno
	}{
		{api.Ticket{Next: 1}, api.Ticket{Next: 1, Serve: 1}, api.OK}, {api.Ticket{Next: 7, Serve: 3}, api.Ticket{Next: 7, Serve: 4}, api.OK},
		{api.Ticket{Next: 0, Serve: mostU32}, api.Ticket{}, api.OK}, {api.Ticket{Next: 1, Serve: mostU32}, api.Ticket{Next: 1}, api.OK}, {api.Ticket{Next: 0, Serve: mostU32 - 1}, api.Ticket{Next: 0, Serve: mostU32}, api.OK}, {api.Ticket{Next: mostU32, Serve: mostU32 - 1}, api.Ticket{Next: mostU32, Serve: mostU32}, api.OK},
		{api.Ticket{Next: mostU32, Serve: 0}, api.Ticket{Next: mostU32, Serve: 1}, api.OK}, {api.Ticket{Next: 0, Serve: 1}, api.Ticket{Next: 0, Serve: 2}, api.OK}, {api.Ticket{Next: mostU32 - 1, Serve: mostU32}, api.Ticket{Next: mostU32 - 1}, api.OK}, {api.Ticket{Next: half, Serve: half - 1}, api.Ticket{Next: half, Serve: half}, api.OK},
		{api.Ticket{}, api.Ticket{}, api.ErrState}, {api.Ticket{Next: 1, Serve: 1}, api.Ticket{}, api.ErrState}, {api.Ticket{Next: half, Serve: half}, api.Ticket{}, api.ErrState}, {api.Ticket{Next: mostU32 - 1, Serve: mostU32 - 1}, api.Ticket{}, api.ErrState}, {api.Ticket{Next: mostU32, Serve: mostU32}, api.Ticket{}, api.ErrState},
	} {
		if after, e := spin.Done(x.from); after != x.after || e != x.why {
			t.Errorf("%d: Done(%v) = %v, %d", i, x.from, after, e)
		}
	}
}

// TestDone is of P6.2: Serve is one more, and Next stays; where none is out, nothing is told.
func TestDone(t *testing.T) {
	for _, x := range around() {
		want, why := api.Ticket{Next: x.Next, Serve: behind(x.Serve)}, api.OK
		if outOf(x) == 0 {
			want, why = api.Ticket{}, api.ErrState
		}
		if after, e := spin.Done(x); after != want || e != why {
			t.Errorf("Done(%v) = %v, %d, not %v, %d", x, after, e, want, why)
		}
	}
}

// TestTurn is of P6.2: it is the turn of what is Serve alone, be it drawn or not, and of nothing that is no ticket's number.
func TestTurn(t *testing.T) {
	for _, x := range around() {
		if is, e := spin.Turn(x, x.Serve); !is || e != api.OK {
			t.Errorf("Turn(%v, %d) = %v, %d", x, x.Serve, is, e)
		}
		others := slices.Concat(numbers(), noNumbers(), []int{x.Serve - 1, x.Serve + 1, x.Serve - power32, x.Serve + power32, -x.Serve, x.Next})
		for _, mine := range others {
			if is, e := spin.Turn(x, mine); is != (mine == x.Serve) || e != api.OK {
				t.Errorf("Turn(%v, %d) = %v, %d", x, mine, is, e)
			}
		}
	}
}

// TestTurnOfNeverDrawn is of P6.2: tickets out of which none was drawn yet, and those behind the last one drawn.
func TestTurnOfNeverDrawn(t *testing.T) {
	for i, x := range []struct {
		t    api.Ticket
		mine int
		want bool
	}{
		{api.Ticket{}, 0, true}, {api.Ticket{}, 1, false}, {api.Ticket{}, mostU32, false}, {api.Ticket{Next: 5, Serve: 5}, 5, true}, {api.Ticket{Next: 5, Serve: 5}, 4, false}, {api.Ticket{Next: 5, Serve: 5}, 6, false},
		{api.Ticket{Next: 5, Serve: 3}, 5, false}, {api.Ticket{Next: 5, Serve: 3}, 9, false}, {api.Ticket{Next: 5, Serve: 3}, 2, false}, {api.Ticket{Next: 5, Serve: 3}, 3, true},
		{api.Ticket{Next: 0, Serve: mostU32}, 0, false}, {api.Ticket{Next: 0, Serve: mostU32}, 1, false}, {api.Ticket{Next: 0, Serve: mostU32}, mostU32, true}, {api.Ticket{Next: 0, Serve: mostU32}, -1, false},
		{api.Ticket{}, power32, false}, {api.Ticket{}, -power32, false}, {api.Ticket{}, leastInt, false}, {api.Ticket{}, mostInt, false}, {api.Ticket{Next: mostU32, Serve: mostU32}, mostInt, false}, {api.Ticket{Next: mostU32, Serve: mostU32}, -1, false},
	} {
		if is, e := spin.Turn(x.t, x.mine); is != x.want || e != api.OK {
			t.Errorf("%d: Turn(%v, %d) = %v, %d", i, x.t, x.mine, is, e)
		}
	}
}

// starts are tickets of which none is out: the first ones, and those that are about to go round, or to pass the middle.
func starts() []api.Ticket {
	var l []api.Ticket
	for _, n := range []int{0, 1, 77, half - 30, half - 1, half, mostU32 - 40, mostU32 - 20, mostU32 - 3, mostU32 - 1, mostU32} {
		l = append(l, api.Ticket{Next: n, Serve: n})
	}
	return l
}

// queue is tickets, and those who drew some and were not served yet, the first one first.
type queue struct {
	tickets api.Ticket
	holders []int
}

func (q *queue) draw(t *testing.T) {
	t.Helper()
	after, mine, e := spin.Draw(q.tickets)
	if e != api.OK || slices.Contains(q.holders, mine) {
		t.Fatalf("Draw(%v) = %v, %d, %d; %v are out", q.tickets, after, mine, e, q.holders)
	}
	q.tickets, q.holders = after, append(q.holders, mine)
}

func (q *queue) done(t *testing.T) {
	t.Helper()
	after, e := spin.Done(q.tickets)
	if e != api.OK {
		t.Fatalf("Done(%v) = %v, %d; %v are out", q.tickets, after, e, q.holders)
	}
	q.tickets, q.holders = after, q.holders[1:]
}

// check holds that it is the turn of the first holder alone, and that all of them are out.
func (q *queue) check(t *testing.T) {
	t.Helper()
	for i, mine := range q.holders {
		if is, e := spin.Turn(q.tickets, mine); is != (i == 0) || e != api.OK {
			t.Fatalf("Turn(%v, %d) = %v, %d; %v are out", q.tickets, mine, is, e, q.holders)
		}
	}
	if n, e := spin.Out(q.tickets); n != len(q.holders) || e != api.OK {
		t.Fatalf("Out(%v) = %d, %d; %v are out", q.tickets, n, e, q.holders)
	}
}

// TestServedAsDrawn is of P6.3: whoever draws, and is served, in between, the tickets' order is that in which they were drawn, where they go round, too.
func TestServedAsDrawn(t *testing.T) {
	for _, start := range starts() {
		for _, pace := range [][2]int{{1, 1}, {2, 1}, {3, 2}, {5, 5}, {7, 1}, {50, 50}} {
			q := queue{tickets: start}
			for range 12 {
				for range pace[0] {
					q.draw(t)
					q.check(t)
				}
				for range pace[1] {
					q.done(t)
					q.check(t)
				}
			}
			for len(q.holders) > 0 {
				q.done(t)
				q.check(t)
			}
			if after, e := spin.Done(q.tickets); after != (api.Ticket{}) || e != api.ErrState {
				t.Errorf("Done(%v), of which none is out: %v, %d", q.tickets, after, e)
			}
		}
	}
}

// TestAsManyAheadAsWereOut is of P6.3: so many are served till it is the turn of who drew, no more and no fewer.
func TestAsManyAheadAsWereOut(t *testing.T) {
	for _, start := range starts() {
		for ahead := range 60 {
			q := queue{tickets: start}
			for range ahead {
				q.draw(t)
			}
			were, _ := spin.Out(q.tickets)
			q.draw(t)
			mine := q.holders[ahead]
			q.draw(t) // who comes behind makes no difference
			served := 0
			for is, e := spin.Turn(q.tickets, mine); !is; is, e = spin.Turn(q.tickets, mine) {
				if e != api.OK || served > ahead {
					t.Fatalf("from %v, %d were out, and %d are served: %d", start, ahead, served, e)
				}
				q.done(t)
				served++
			}
			if were != ahead || served != ahead {
				t.Errorf("from %v, %d were out, Out was %d, and %d were served ahead", start, ahead, were, served)
			}
		}
	}
}

// TestManyAhead is of P6.3: however many were out, it is the turn of who drew where so many were served, and nowhere next to it.
func TestManyAhead(t *testing.T) {
	for _, x := range around() {
		were, _ := spin.Out(x)
		after, mine, e := spin.Draw(x)
		if e != api.OK {
			continue // all are out, which TestDraw is of
		}
		for _, served := range []int{were - 1, were, were + 1} {
			after.Serve = (x.Serve + served + power32) % power32
			if is, e := spin.Turn(after, mine); is != (served == were) || e != api.OK {
				t.Errorf("%v, drawn from, and served %d times: Turn(%v, %d) = %v, %d", x, served, after, mine, is, e)
			}
		}
	}
}

// TestDrawnAndServed is of P6.2 and P6.3: one more is out, and then one fewer; it makes no difference which comes first, and where all are out, one is drawn again when one is served.
func TestDrawnAndServed(t *testing.T) {
	for _, x := range around() {
		were := outOf(x)
		drawn, mine, full := spin.Draw(x)
		served, none := spin.Done(x)
		if full == api.OK {
			if n, e := spin.Out(drawn); n != were+1 || e != api.OK {
				t.Errorf("%v, drawn from: %d are out, %d", x, n, e)
			}
		}
		if none != api.OK {
			continue
		}
		if n, e := spin.Out(served); n != were-1 || e != api.OK {
			t.Errorf("%v, served: %d are out, %d", x, n, e)
		}
		other, hers, e := spin.Draw(served)
		if e != api.OK || hers != x.Next {
			t.Errorf("%v, served: Draw = %v, %d, %d", x, other, hers, e)
		}
		if full != api.OK {
			continue
		}
		if both, e := spin.Done(drawn); both != other || hers != mine || e != api.OK {
			t.Errorf("%v, drawn from and served: %v, %d; the other way round: %v", x, both, e, other)
		}
	}
}
