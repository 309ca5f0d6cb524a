package sema_test

import (
	"math"
	"slices"
	"testing"

	"deadbolt/api"
	"deadbolt/root"
	"deadbolt/sema"
)

const (
	leastInt  = math.MinInt
	mostInt   = math.MaxInt
	lastKey   = 1<<32 - 1
	mostCount = 1<<31 - 1
)

// count is a spot of some grants, written shortly.
func count(addr, n int) api.Spot {
	return api.Spot{Addr: addr, Count: n}
}

// waits is a spot of some who wait, written shortly.
func waits(addr int, ids ...int) api.Spot {
	return api.Spot{Addr: addr, Line: ids}
}

// upTo is n numbers, from one on.
func upTo(from, n int) []int {
	l := make([]int, n)
	for i := range l {
		l[i] = from + i
	}
	return l
}

// same tells whether two spots are, be their empty lines nil or not.
func same(a, b api.Spot) bool {
	return a.Addr == b.Addr && a.Count == b.Count && slices.Equal(a.Line, b.Line)
}

// of is a table of these spots, but the empty ones, in whatever order they are told.
func of(spots ...api.Spot) []api.Spot {
	x := slices.DeleteFunc(slices.Clone(spots), func(s api.Spot) bool { return s.Count == 0 && len(s.Line) == 0 })
	slices.SortFunc(x, func(a, b api.Spot) int {
		return (a.Addr/8%251-b.Addr/8%251)*(2*lastKey) + a.Addr - b.Addr
	})
	return x
}

// others is n spots, short ones, of addresses from one on, so far apart; 7777777 waits in every second line.
func others(from, apart, n int) []api.Spot {
	var x []api.Spot
	for i := range n {
		s := count(from+i*apart, 1+i)
		if i%2 == 1 {
			s = waits(s.Addr, 7777776+i%4/2, 5, i+6)
		}
		x = append(x, s)
	}
	return x
}

// roomy is the same table, with room behind its end and those of its lines.
func roomy(x []api.Spot) []api.Spot {
	y := make([]api.Spot, 0, len(x)+2)
	for _, s := range x {
		s.Line = append(slices.Clone(s.Line), -5, -6)[:len(s.Line)]
		y = append(y, s)
	}
	return append(y, count(-1, -2), count(-3, -4))[:len(x)]
}

// whole is a copy of a table, with all that stands behind its end and those of its lines.
func whole(x []api.Spot) []api.Spot {
	all := slices.Clone(x[:cap(x)])
	for i, s := range all {
		all[i].Line = slices.Clone(s.Line[:cap(s.Line)])
	}
	return all
}

// scrawl writes over an answer, and tells whether each of its lines is its own.
func scrawl(answer []api.Spot) bool {
	for i, s := range answer {
		for at := range s.Line[:cap(s.Line)] {
			s.Line[:cap(s.Line)][at] = -100 - i
		}
	}
	for i, s := range answer {
		for _, id := range s.Line[:cap(s.Line)] {
			if id != -100-i {
				return false
			}
		}
	}
	for i := range answer[:cap(answer)] {
		answer[:cap(answer)][i] = count(-77, -77)
	}
	return true
}

// checkApart holds that a table is as it was, room and all, and stays so whatever is done to an answer.
func checkApart(t *testing.T, x, was, answer []api.Spot) {
	t.Helper()
	if !slices.EqualFunc(whole(x), was, same) {
		t.Fatalf("%v was changed to %v", was, whole(x))
	}
	if !scrawl(answer) || !slices.EqualFunc(whole(x), was, same) {
		t.Fatalf("what is answered shares with itself, or with %v", was)
	}
}

// told is what a call tells beside a table.
type told struct {
	who int
	is  bool
	why api.Errno
}

func checkAcquire(t *testing.T, x []api.Spot, addr, who int, first bool, want []api.Spot, wantTold told) {
	t.Helper()
	y := roomy(x)
	was := whole(y)
	after, is, e := sema.Acquire(y, addr, who, first)
	if !slices.EqualFunc(after, want, same) || (told{0, is, e}) != wantTold {
		t.Fatalf("Acquire(%v, %d, %d, %v) = %v, %v, %d, not %v, %v", x, addr, who, first, after, is, e, want, wantTold)
	}
	if e == api.OK && !root.Right(after) {
		t.Fatalf("Acquire(%v, %d, %d, %v) = %v, which may not be", x, addr, who, first, after)
	}
	checkApart(t, y, was, after)
}

func checkRelease(t *testing.T, x []api.Spot, addr int, want []api.Spot, wantTold told) {
	t.Helper()
	y := roomy(x)
	was := whole(y)
	after, who, e := sema.Release(y, addr)
	if !slices.EqualFunc(after, want, same) || (told{who, false, e}) != wantTold {
		t.Fatalf("Release(%v, %d) = %v, %d, %d, not %v, %v", x, addr, after, who, e, want, wantTold)
	}
	if e == api.OK && !root.Right(after) {
		t.Fatalf("Release(%v, %d) = %v, which may not be", x, addr, after)
	}
	checkApart(t, y, was, after)
}

func checkQueued(t *testing.T, x []api.Spot, who, want int, why api.Errno) {
	t.Helper()
	y := roomy(x)
	was := whole(y)
	if n, e := sema.Queued(y, who); n != want || e != why {
		t.Fatalf("Queued(%v, %d) = %d, %d, not %d, %d", x, who, n, e, want, why)
	}
	checkApart(t, y, was, nil)
}

// spotOf is a table's spot of an address, or else an empty one.
func spotOf(x []api.Spot, addr int) api.Spot {
	for _, s := range x {
		if s.Addr == addr {
			return s
		}
	}
	return api.Spot{Addr: addr}
}

// with is a table with this spot instead of that of the same address, if it has room.
func with(x []api.Spot, s api.Spot) ([]api.Spot, api.Errno) {
	rest := slices.DeleteFunc(slices.Clone(x), func(other api.Spot) bool { return other.Addr == s.Addr })
	y := of(append(rest, s)...)
	if len(y) > 64 {
		return nil, api.ErrFull
	}
	return y, api.OK
}

func wantAcquire(x []api.Spot, addr, who int, first bool) ([]api.Spot, told) {
	s := spotOf(x, addr)
	if slices.Contains(s.Line, who) {
		return nil, told{why: api.ErrTwice}
	}
	if s.Count > 0 {
		y, e := with(x, count(addr, s.Count-1))
		return y, told{is: true, why: e}
	}
	if len(s.Line) == 64 {
		return nil, told{why: api.ErrFull}
	}
	at := len(s.Line)
	if first {
		at = 0
	}
	y, e := with(x, waits(addr, slices.Insert(slices.Clone(s.Line), at, who)...))
	return y, told{why: e}
}

func wantRelease(x []api.Spot, addr int) ([]api.Spot, told) {
	s := spotOf(x, addr)
	if len(s.Line) > 0 {
		y, e := with(x, waits(addr, s.Line[1:]...))
		return y, told{who: s.Line[0], why: e}
	}
	if s.Count == mostCount {
		return nil, told{why: api.ErrOver}
	}
	y, e := with(x, count(addr, s.Count+1))
	if e != api.OK {
		return nil, told{why: e}
	}
	return y, told{who: -1}
}

func wantQueued(x []api.Spot, who int) int {
	n := 0
	for _, s := range x {
		for _, id := range s.Line {
			if id == who {
				n++
			}
		}
	}
	return n
}

// addresses is those that are asked for.
func addresses() []int {
	return []int{0, 1, 7, 8, 2007, 2008, lastKey}
}

// spots is an address's, with all counts and lines that are at an edge; the first one is empty.
func spots(addr int) []api.Spot {
	all := []api.Spot{count(addr, 0), waits(addr, 0), waits(addr, mostInt), waits(addr, 4, 2), waits(addr, 2, mostInt, 0), waits(addr, 5, 4), waits(addr, 7777777), waits(addr, upTo(0, 63)...), waits(addr, upTo(3, 63)...), waits(addr, upTo(0, 64)...), waits(addr, upTo(3, 64)...), waits(addr, upTo(mostInt-63, 64)...)}
	for _, n := range []int{1, 2, 3, 65, mostCount - 1, mostCount} {
		all = append(all, count(addr, n))
	}
	return all
}

// around is what a table has beside one address: none to 64 spots ahead of that one's, behind it, or about it.
func around() [][]api.Spot {
	all := [][]api.Spot{nil, {}}
	for _, n := range []int{1, 2, 62, 63, 64} {
		all = append(all, others(3, 8, n), others(2011, 2008, n), others(1000, 16, n), others(lastKey-1, -8, n))
	}
	return all
}

// ids is those who come, or are asked for: all edges, and some who wait.
func ids() []int {
	return []int{0, 1, 2, 4, 5, 6, 62, 63, 66, 67, 7777776, 7777777, mostInt - 63, mostInt - 1, mostInt}
}

// tables is tables of none to 64 spots, and what their spot of an address is, with all that may stand about it.
func tables(addr int) [][]api.Spot {
	var all [][]api.Spot
	for _, rest := range around() {
		for _, s := range spots(addr) {
			if x, e := with(rest, s); e == api.OK {
				all = append(all, x)
			}
		}
	}
	return all
}

func notAddresses() []int {
	return []int{leastInt, leastInt + 8, -1 << 32, -2008, -8, -1, 1 << 32, 1<<32 + 8, mostInt - 1, mostInt}
}

func notIDs() []int {
	return []int{leastInt, leastInt + 1, -1 << 32, -2, -1}
}

// wrongTables is tables that may not be, each for one of the reasons of chapter 9.
func wrongTables() [][]api.Spot {
	var all [][]api.Spot
	for _, s := range []api.Spot{
		count(8, 0), waits(8), {}, count(8, -1), count(8, leastInt), count(8, mostCount+1), count(8, mostInt),
		{Addr: 8, Count: 1, Line: []int{1}}, {Addr: 8, Count: -1, Line: []int{1}},
		waits(8, -1), waits(8, 4, leastInt), waits(8, 1, 1), waits(8, 1, 2, 1), waits(8, upTo(0, 65)...), waits(8, upTo(-1, 64)...),
		count(-1, 1), waits(-1, 1), count(lastKey+1, 1), waits(lastKey+1, 1), count(leastInt, 1), count(mostInt, 1),
	} {
		all = append(all, []api.Spot{s}, []api.Spot{count(0, 1), s}, []api.Spot{s, count(16, 1)}, []api.Spot{waits(0, 4), s, count(16, 1)})
	}
	down, twice := of(others(0, 8, 64)...), of(others(0, 8, 64)...)
	slices.Reverse(down)
	twice[63] = twice[62]
	return append(all, down, twice, of(others(0, 8, 65)...), of(others(0, 2008, 65)...), of(others(0, 8, 200)...),
		[]api.Spot{count(8, 1), count(8, 1)}, []api.Spot{count(8, 1), waits(8, 1)}, []api.Spot{count(8, 1), count(0, 1)}, []api.Spot{count(8, 1), count(2008, 1)}, []api.Spot{waits(2008, 1), waits(0, 1)}, []api.Spot{count(0, 1), count(16, 1), count(8, 1)})
}

// TestApi is of P10.1 and P10.2: the limits are those that package api names.
func TestApi(t *testing.T) {
	if api.Nil != -1 || api.MaxCount != mostCount || api.MaxSpots != 64 || api.MaxLine != 64 || api.MaxKey != lastKey {
		t.Error(api.Nil, api.MaxCount, api.MaxSpots, api.MaxLine, api.MaxKey)
	}
}

// TestExamples is of P10.1 and P10.2: the chapter's.
func TestExamples(t *testing.T) {
	checkAcquire(t, nil, 8, 4, false, of(waits(8, 4)), told{})
	checkAcquire(t, of(waits(8, 4)), 8, 2, true, of(waits(8, 2, 4)), told{})
	checkRelease(t, of(waits(8, 2, 4)), 8, of(waits(8, 4)), told{who: 2})
}

// TestAcquire is of P10.1: all that an address may have, in tables of none to 64 spots; who comes is let through, comes to the line, first or last, waits already, or finds it full.
func TestAcquire(t *testing.T) {
	for _, addr := range addresses() {
		for _, x := range tables(addr) {
			for _, who := range ids() {
				for _, first := range []bool{false, true} {
					want, wantTold := wantAcquire(x, addr, who, first)
					checkAcquire(t, x, addr, who, first, want, wantTold)
				}
			}
		}
	}
}

// TestAcquireAtEdges is of P10.1: what the document names, told one by one.
func TestAcquireAtEdges(t *testing.T) {
	x := of(count(0, 2), waits(2008, 4, 2), count(8, 1), waits(16, 5))
	for _, c := range []struct {
		addr, who int
		first     bool
		want      []api.Spot
		is        bool
	}{
		{0, 9, false, of(count(0, 1), waits(2008, 4, 2), count(8, 1), waits(16, 5)), true},
		{0, 4, true, of(count(0, 1), waits(2008, 4, 2), count(8, 1), waits(16, 5)), true},
		{8, 0, false, of(count(0, 2), waits(2008, 4, 2), waits(16, 5)), true},
		{8, mostInt, true, of(count(0, 2), waits(2008, 4, 2), waits(16, 5)), true},
		{2008, 0, false, of(count(0, 2), waits(2008, 4, 2, 0), count(8, 1), waits(16, 5)), false},
		{2008, 0, true, of(count(0, 2), waits(2008, 0, 4, 2), count(8, 1), waits(16, 5)), false},
		{2008, 5, false, of(count(0, 2), waits(2008, 4, 2, 5), count(8, 1), waits(16, 5)), false},
		{1, 4, false, of(count(0, 2), waits(1, 4), waits(2008, 4, 2), count(8, 1), waits(16, 5)), false},
		{lastKey, mostInt, true, of(count(0, 2), waits(2008, 4, 2), count(8, 1), waits(16, 5), waits(lastKey, mostInt)), false},
	} {
		checkAcquire(t, x, c.addr, c.who, c.first, c.want, told{is: c.is})
	}
	for _, first := range []bool{false, true} {
		checkAcquire(t, x, 2008, 4, first, nil, told{why: api.ErrTwice})
		checkAcquire(t, x, 2008, 2, first, nil, told{why: api.ErrTwice})
		checkAcquire(t, x, 16, 5, first, nil, told{why: api.ErrTwice})
		checkAcquire(t, nil, lastKey, 0, first, of(waits(lastKey, 0)), told{})
		checkAcquire(t, of(), 0, mostInt, first, of(waits(0, mostInt)), told{})
		checkAcquire(t, of(count(7, 1)), 7, 0, first, nil, told{is: true})
		checkAcquire(t, of(count(7, mostCount)), 7, 0, first, of(count(7, mostCount-1)), told{is: true})
	}
}

// TestAcquireAtFull is of P10.1: a line of 64 takes nobody, a table of 64 no other address; who waits already is told so all the same, and who finds a grant is let through.
func TestAcquireAtFull(t *testing.T) {
	rest := others(3, 8, 63)
	line := upTo(10, 64)
	full, _ := with(rest, waits(2000, line...))
	grants, _ := with(rest, count(2000, 1))
	for _, first := range []bool{false, true} {
		for _, x := range [][]api.Spot{full, of(waits(2000, line...))} {
			for _, who := range line {
				checkAcquire(t, x, 2000, who, first, nil, told{why: api.ErrTwice})
			}
			checkAcquire(t, x, 2000, 9, first, nil, told{why: api.ErrFull})
			checkAcquire(t, x, 2000, 74, first, nil, told{why: api.ErrFull})
			checkAcquire(t, x, 2000, -1, first, nil, told{why: api.ErrArg})
		}
		for _, addr := range []int{0, 2, 1000, 1999, 2001, 2008, lastKey} {
			for _, who := range []int{0, 5, 10, mostInt} {
				checkAcquire(t, full, addr, who, first, nil, told{why: api.ErrFull})
			}
			checkAcquire(t, full, addr, -1, first, nil, told{why: api.ErrArg})
		}
		checkAcquire(t, grants, 2000, 0, first, of(rest...), told{is: true})
		checkAcquire(t, of(rest...), 2000, 0, first, of(append(rest, waits(2000, 0))...), told{})
	}
	// The 64th one of a line is taken yet.
	checkAcquire(t, of(waits(8, line[:63]...)), 8, 73, false, of(waits(8, line...)), told{})
	checkAcquire(t, of(waits(8, line[1:]...)), 8, 10, true, of(waits(8, line...)), told{})
}

// TestRelease is of P10.2: all that an address may have, in tables of none to 64 spots; the next one goes, or the grant is kept.
func TestRelease(t *testing.T) {
	for _, addr := range addresses() {
		for _, x := range tables(addr) {
			want, wantTold := wantRelease(x, addr)
			checkRelease(t, x, addr, want, wantTold)
		}
	}
}

// TestReleaseAtEdges is of P10.2: what the document names, told one by one.
func TestReleaseAtEdges(t *testing.T) {
	x := of(count(0, 2), waits(2008, 4, 0, 2), count(8, 1), waits(16, mostInt))
	checkRelease(t, x, 0, of(count(0, 3), waits(2008, 4, 0, 2), count(8, 1), waits(16, mostInt)), told{who: -1})
	checkRelease(t, x, 2008, of(count(0, 2), waits(2008, 0, 2), count(8, 1), waits(16, mostInt)), told{who: 4})
	checkRelease(t, x, 16, of(count(0, 2), waits(2008, 4, 0, 2), count(8, 1)), told{who: mostInt})
	checkRelease(t, x, 1, of(count(0, 2), count(1, 1), waits(2008, 4, 0, 2), count(8, 1), waits(16, mostInt)), told{who: -1})
	checkRelease(t, nil, 0, of(count(0, 1)), told{who: -1})
	checkRelease(t, of(), lastKey, of(count(lastKey, 1)), told{who: -1})
	checkRelease(t, of(waits(5, 0)), 5, nil, told{who: 0})
}

// TestReleaseAtFull is of P10.2: a count of 2^31 - 1 takes no grant, a table of 64 no other address's.
func TestReleaseAtFull(t *testing.T) {
	rest := others(3, 8, 63)
	for _, beside := range [][]api.Spot{nil, rest[:1], rest[:62], rest} {
		most, _ := with(beside, count(2000, mostCount))
		one, _ := with(beside, count(2000, mostCount-1))
		checkRelease(t, most, 2000, nil, told{why: api.ErrOver})
		checkRelease(t, one, 2000, most, told{who: -1})
	}
	for _, s := range []api.Spot{count(2000, 1), count(2000, mostCount), waits(2000, 4), waits(2000, upTo(0, 64)...)} {
		full, _ := with(rest, s)
		for _, addr := range []int{0, 2, 1000, 1999, 2001, 2008, lastKey} {
			checkRelease(t, full, addr, nil, told{why: api.ErrFull})
		}
	}
	full, _ := with(rest, waits(2000, 4))
	checkRelease(t, full, 2000, of(rest...), told{who: 4})
	checkRelease(t, of(rest...), 2000, of(append(rest, count(2000, 1))...), told{who: -1})
}

// TestQueued is of P10.2: who waits at none, at one, at several addresses, at the front, in the middle and at the end.
func TestQueued(t *testing.T) {
	for _, addr := range addresses() {
		for _, x := range tables(addr) {
			for _, who := range append(ids(), 3, 30, 65) {
				checkQueued(t, x, who, wantQueued(x, who), api.OK)
			}
		}
	}
	x := of(waits(0, 0, 4, 2), waits(8, 2, 0), waits(16, 2), count(24, 7), waits(lastKey, mostInt, 9, 2))
	for who, want := range map[int]int{0: 2, 1: 0, 2: 4, 4: 1, 7: 0, 8: 0, 9: 1, 24: 0, mostInt: 1, mostInt - 1: 0} {
		checkQueued(t, x, who, want, api.OK)
	}
	var all []api.Spot
	for i := range 64 {
		all = append(all, waits(8*i, 99, i))
	}
	checkQueued(t, of(all...), 99, 64, api.OK)
	checkQueued(t, of(all...), 63, 1, api.OK)
	checkQueued(t, nil, 0, 0, api.OK)
	checkQueued(t, of(), mostInt, 0, api.OK)
}

// TestWrongTables is of P10.1 and P1: tables that may not be, with addresses and a who that may be and that are none.
func TestWrongTables(t *testing.T) {
	for _, x := range wrongTables() {
		if root.Right(x) {
			t.Errorf("%v may be", x)
		}
		for _, addr := range append(notAddresses(), 0, 8, 16, 24, 2008, lastKey) {
			for _, who := range append(notIDs(), 0, 1, 4, mostInt) {
				checkAcquire(t, x, addr, who, who%2 == 0, nil, told{why: api.ErrArg})
			}
			checkRelease(t, x, addr, nil, told{why: api.ErrArg})
		}
		for _, who := range append(notIDs(), 0, 1, 4, mostInt) {
			checkQueued(t, x, who, 0, api.ErrArg)
		}
	}
}

// TestWrongArguments is of P10.1 and P1: addresses that are none and a who below 0, or both, with tables that may be; also where there are grants, where the line or the table is full, and at the greatest count.
func TestWrongArguments(t *testing.T) {
	for _, x := range tables(8) {
		for _, addr := range notAddresses() {
			for _, who := range append(notIDs(), 0, 4, mostInt) {
				checkAcquire(t, x, addr, who, who%2 == 0, nil, told{why: api.ErrArg})
			}
			checkRelease(t, x, addr, nil, told{why: api.ErrArg})
		}
		for _, who := range notIDs() {
			for _, addr := range []int{0, 3, 8, lastKey} {
				checkAcquire(t, x, addr, who, false, nil, told{why: api.ErrArg})
				checkAcquire(t, x, addr, who, true, nil, told{why: api.ErrArg})
			}
			checkQueued(t, x, who, 0, api.ErrArg)
		}
	}
}

// visit is somebody's, who waits: when he came, and whether he came first.
type visit struct {
	who, when int
	first     bool
}

// gate is what happened at an address: how many grants there were, how many were let through, and who waits.
type gate struct {
	grants, through int
	waiting         []visit
}

// play is a table that comes and grants change, and what happened at its addresses.
type play struct {
	table []api.Spot
	gates map[int]gate
	now   int
}

// change is somebody who comes, or, where who is below 0, a grant.
type change struct {
	addr, who int
	first     bool
}

// goes holds that a waiting one who goes has his turn: of those who wait still, each one came later, and not first, or he came first after them.
func (p play) goes(t *testing.T, g gate, who int) gate {
	t.Helper()
	at := slices.IndexFunc(g.waiting, func(v visit) bool { return v.who == who })
	if at < 0 {
		t.Fatalf("%d is let through, who does not wait: %v", who, g)
	}
	gone := g.waiting[at]
	g.waiting = slices.Delete(slices.Clone(g.waiting), at, at+1)
	for _, v := range g.waiting {
		if v.when > gone.when && v.first || v.when < gone.when && !gone.first {
			t.Fatalf("%v is let through, and %v waits", gone, v)
		}
	}
	g.through++
	return g
}

// comes has somebody come, and holds that he is let through just where there is a grant that nobody had; else he waits.
func (p play) comes(t *testing.T, g gate, c change) ([]api.Spot, gate) {
	t.Helper()
	after, is, e := sema.Acquire(p.table, c.addr, c.who, c.first)
	waits := slices.ContainsFunc(g.waiting, func(v visit) bool { return v.who == c.who })
	switch {
	case e == api.ErrTwice && waits:
		return p.table, g
	case e != api.OK || waits || is != (g.grants > g.through) || is && len(g.waiting) > 0:
		t.Fatalf("%v comes to %v: %v, %d", c, g, is, e)
	case is:
		g.through++
	default:
		g.waiting = append(slices.Clone(g.waiting), visit{c.who, p.now, c.first})
	}
	return after, g
}

// granted gives a grant, and holds that it lets through one who waits, if somebody does.
func (p play) granted(t *testing.T, g gate, c change) ([]api.Spot, gate) {
	t.Helper()
	after, who, e := sema.Release(p.table, c.addr)
	if e != api.OK || (who == -1) != (len(g.waiting) == 0) {
		t.Fatalf("a grant to %v: %d, %d", g, who, e)
	}
	g.grants++
	if who != -1 {
		g = p.goes(t, g, who)
	}
	return after, g
}

// next is the play after a change, which the table has to tell the same of as what happened.
func (p play) next(t *testing.T, c change) play {
	t.Helper()
	g := p.gates[c.addr]
	q := play{gates: map[int]gate{}, now: p.now + 1}
	if c.who < 0 {
		q.table, g = p.granted(t, g, c)
	} else {
		q.table, g = p.comes(t, g, c)
	}
	for addr, other := range p.gates {
		q.gates[addr] = other
	}
	q.gates[c.addr] = g
	q.check(t)
	return q
}

// check holds that what is kept is the grants that let nobody through, and that who waits is who came and was not let through.
func (p play) check(t *testing.T) {
	t.Helper()
	if !root.Right(p.table) {
		t.Fatalf("%v may not be", p.table)
	}
	queued := map[int]int{}
	for addr, g := range p.gates {
		s := spotOf(p.table, addr)
		if s.Count != g.grants-g.through || len(s.Line) != len(g.waiting) {
			t.Fatalf("%v, where this happened: %v", s, g)
		}
		for _, v := range g.waiting {
			queued[v.who]++
		}
	}
	for who, want := range queued {
		if n, e := sema.Queued(p.table, who); n != want || e != api.OK {
			t.Fatalf("Queued(%v, %d) = %d, %d, not %d", p.table, who, n, e, want)
		}
	}
}

// TestInEachOrder is of P10.3: all orders of some comings and grants, at one address and at two.
func TestInEachOrder(t *testing.T) {
	var one, two []change
	for who := range 3 {
		one = append(one, change{8, who, false}, change{8, who, true})
	}
	for _, addr := range []int{8, 2008} {
		two = append(two, change{addr, 0, false}, change{addr, 1, true}, change{addr, -1, false})
	}
	var all func(p play, changes []change, steps int)
	all = func(p play, changes []change, steps int) {
		if steps == 0 {
			return
		}
		for _, c := range changes {
			all(p.next(t, c), changes, steps-1)
		}
	}
	all(play{}, append(one, change{8, -1, false}), 5)
	all(play{}, two, 6)
}

// TestManyComings is of P10.3: many come to many addresses, again and again, by rules; where grants are few, lines grow to 64, and at the end all who wait are let through.
func TestManyComings(t *testing.T) {
	for _, pause := range []int{2, 3, 7, 50} {
		var p play
		addrs := []int{0, 8, 2008, 7, lastKey}
		for step := range 700 {
			c := change{addrs[step*step%11%5], step * 7 % 64, step%5 == 0}
			if step%pause == 1 {
				c.who = -1
			}
			p = p.next(t, c)
		}
		for _, addr := range addrs {
			for len(p.gates[addr].waiting) > 0 {
				p = p.next(t, change{addr, -1, false})
			}
		}
		for _, s := range p.table {
			if len(s.Line) > 0 {
				t.Errorf("%v is left", s)
			}
		}
	}
}

// TestInLine is of P10.3: whoever waits is let through behind those ahead of him, and whoever comes first ahead of all; the grants that are kept let through as many as there were.
func TestInLine(t *testing.T) {
	var p play
	for who := range 32 {
		p = p.next(t, change{9, who, false})
		p = p.next(t, change{9, 63 - who, true})
	}
	for want := 32; want < 64; want++ {
		checkNext(t, &p, want)
	}
	for want := range 32 {
		checkNext(t, &p, want)
	}
	for range 5 {
		checkNext(t, &p, -1)
	}
	for who := range 5 {
		checkAcquire(t, p.table, 9, who, who%2 == 0, of(count(9, 4-who)), told{is: true})
		p = p.next(t, change{9, who, who%2 == 0})
	}
	checkAcquire(t, p.table, 9, 5, false, of(waits(9, 5)), told{})
}

// checkNext gives a grant at address 9, and holds who is let through by it.
func checkNext(t *testing.T, p *play, want int) {
	t.Helper()
	if _, who, e := sema.Release(p.table, 9); who != want || e != api.OK {
		t.Fatalf("%d, %d, not %d", who, e, want)
	}
	*p = p.next(t, change{9, -1, false})
}

// TestOnTheWay is of P10.1 to P10.3: comings and grants at many addresses, so that the table is full at times; at each step it is just what it should be.
func TestOnTheWay(t *testing.T) {
	for _, seed := range []int{1, 4, 11} {
		var x []api.Spot
		for step := range 900 {
			addr, who := (step*37+step*step/50*seed)%80*1004, step*seed%13
			want, wantTold := wantAcquire(x, addr, who, step%4 == 0)
			if step%3 == 0 {
				want, wantTold = wantRelease(x, addr)
				checkRelease(t, x, addr, want, wantTold)
			} else {
				checkAcquire(t, x, addr, who, step%4 == 0, want, wantTold)
			}
			if wantTold.why == api.OK {
				x = want
			}
			checkQueued(t, x, who, wantQueued(x, who), api.OK)
		}
	}
}

// TestShared is of rule R4: tables that are made of one don't get in each other's way, nor does a call's answer change when it is asked again.
func TestShared(t *testing.T) {
	x := roomy(of(count(0, 1), waits(8, 4, 2)))
	was := whole(x)
	a, _, _ := sema.Acquire(x, 8, 1, false)
	b, _, _ := sema.Acquire(x, 8, 3, false)
	c, _, _ := sema.Acquire(x, 8, 5, true)
	d, _, _ := sema.Acquire(a, 8, 6, false)
	e, _, _ := sema.Acquire(a, 8, 7, false)
	f, _, _ := sema.Release(a, 8)
	g, _, _ := sema.Release(x, 16)
	h, _, _ := sema.Acquire(x, 0, 9, false)
	again, _, _ := sema.Acquire(x, 8, 1, false)
	for i, pair := range [][2][]api.Spot{
		{a, of(count(0, 1), waits(8, 4, 2, 1))}, {b, of(count(0, 1), waits(8, 4, 2, 3))}, {c, of(count(0, 1), waits(8, 5, 4, 2))},
		{d, of(count(0, 1), waits(8, 4, 2, 1, 6))}, {e, of(count(0, 1), waits(8, 4, 2, 1, 7))}, {f, of(count(0, 1), waits(8, 2, 1))},
		{g, of(count(0, 1), waits(8, 4, 2), count(16, 1))}, {h, of(waits(8, 4, 2))}, {again, a},
	} {
		if !slices.EqualFunc(pair[0], pair[1], same) {
			t.Errorf("%d: %v, not %v", i, pair[0], pair[1])
		}
	}
	for _, answer := range [][]api.Spot{a, b, c, d, e, f, g, h, again} {
		checkApart(t, x, was, answer)
	}
}
