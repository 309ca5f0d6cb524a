package root_test

import (
	"math"
	"slices"
	"testing"

	"deadbolt/api"
	"deadbolt/root"
)

const (
	leastInt  = math.MinInt
	mostInt   = math.MaxInt
	power32   = 1 << 32
	lastKey   = 1<<32 - 1
	mostCount = 1<<31 - 1
	// unusedID fills the room behind the ends of lines, and is in none.
	unusedID = 987654321
)

// unused fills the room behind a table's end, and is in no table.
var unused = api.Spot{Addr: -987, Count: -654}

// count is a spot of some grants, written shortly.
func count(addr, n int) api.Spot {
	return api.Spot{Addr: addr, Count: n}
}

// waits is a spot of some who wait, written shortly.
func waits(addr int, ids ...int) api.Spot {
	return api.Spot{Addr: addr, Line: ids}
}

// of is a table, written shortly.
func of(spots ...api.Spot) []api.Spot {
	return spots
}

// same tells whether two spots are, be their empty lines nil or not.
func same(a, b api.Spot) bool {
	return a.Addr == b.Addr && a.Count == b.Count && slices.Equal(a.Line, b.Line)
}

// handed is a table that is handed in, with room behind its end and those of its lines, and how all of that was.
type handed struct {
	spots, was  []api.Spot
	ids, wereID []int
}

// roomy is the same table, its lines all in one list, with room behind the end of each; where there is no line, it is nil here, empty there.
func roomy(x []api.Spot) handed {
	var h handed
	for _, s := range x {
		h.ids = append(append(h.ids, s.Line...), unusedID, unusedID)
	}
	from := 0
	for i, s := range x {
		l := h.ids[from : from+len(s.Line)]
		from += len(s.Line) + 2
		if len(l) == 0 && i%2 == 0 {
			l = nil
		}
		h.spots = append(h.spots, api.Spot{Addr: s.Addr, Count: s.Count, Line: l})
	}
	h.spots = append(h.spots, unused, unused, unused)[:len(x)]
	h.was, h.wereID = x, slices.Clone(h.ids)
	return h
}

// checkKept holds that a table that was handed in is as it was, and the room behind all ends too.
func (h handed) checkKept(t *testing.T) {
	t.Helper()
	if !slices.EqualFunc(h.spots, h.was, same) || !slices.Equal(h.ids, h.wereID) {
		t.Fatalf("%v was changed to %v, and its lines, with room, to %v", h.was, h.spots, h.ids)
	}
	for _, s := range h.spots[len(h.was) : len(h.was)+3] {
		if !same(s, unused) {
			t.Fatalf("%v stands behind the end of %v", s, h.was)
		}
	}
}

// checkApart holds that the lists of an answer share nothing with each other, nor with what was handed in: whatever is done to them, that stays.
func checkApart(t *testing.T, answer []api.Spot, hs ...handed) {
	t.Helper()
	for i, s := range answer {
		whole := s.Line[:cap(s.Line)]
		for at := range whole {
			whole[at] = -100 - i
		}
	}
	for i, s := range answer {
		for _, id := range s.Line[:cap(s.Line)] {
			if id != -100-i {
				t.Fatalf("two lines of %v share", answer)
			}
		}
	}
	whole := answer[:cap(answer)]
	for i := range whole {
		whole[i] = api.Spot{Addr: -77, Count: -77}
	}
	for _, h := range hs {
		h.checkKept(t)
	}
}

// rootOf is an address's root: what is left of its bits but the last three, when 251 is taken from them as often as can be.
func rootOf(addr int) int {
	n := addr >> 3
	return n - n/251*251
}

// rank rises as spots stand: by roots, and by addresses where those are the same.
func rank(s api.Spot) int {
	return rootOf(s.Addr)<<33 + s.Addr
}

func isAddress(n int) bool {
	return n >= 0 && n <= lastKey
}

// mayBeLine tells whether a line may be: in order, its numbers rise from 0 at least.
func mayBeLine(l []int) bool {
	l = slices.Sorted(slices.Values(l))
	for i, n := range l {
		if n < 0 || i > 0 && l[i-1] == n {
			return false
		}
	}
	return len(l) <= 64
}

func mayBeSpot(s api.Spot) bool {
	return isAddress(s.Addr) && s.Count >= 0 && s.Count <= mostCount && mayBeLine(s.Line) && (s.Count == 0 || len(s.Line) == 0)
}

func isEmpty(s api.Spot) bool {
	return s.Count == 0 && len(s.Line) == 0
}

// mayBe tells whether a table may be, each two of its spots held against each other.
func mayBe(x []api.Spot) bool {
	if len(x) > 64 {
		return false
	}
	for i, s := range x {
		if !mayBeSpot(s) || isEmpty(s) {
			return false
		}
		for _, ahead := range x[:i] {
			if rank(ahead) >= rank(s) {
				return false
			}
		}
	}
	return true
}

// upTo is n numbers, from one on.
func upTo(from, n int) []int {
	l := make([]int, n)
	for i := range l {
		l[i] = from + i
	}
	return l
}

// filled is a spot that is not empty, one or another as n has it.
func filled(addr, n int) api.Spot {
	switch n % 7 {
	case 0:
		return count(addr, 1)
	case 1:
		return waits(addr, 0)
	case 2:
		return count(addr, mostCount)
	case 3:
		return waits(addr, n, mostInt, 0)
	case 4:
		return count(addr, n)
	case 5:
		return waits(addr, upTo(n, 64/(1+n/9))...) // the first one has 64
	}
	return waits(addr, mostInt-n, 3, 2, 1)
}

// table is one of these addresses, in whatever order they are told.
func table(addrs ...int) []api.Spot {
	var x []api.Spot
	for i, addr := range addrs {
		x = append(x, filled(addr, i))
	}
	slices.SortFunc(x, func(a, b api.Spot) int { return rank(a) - rank(b) })
	return x
}

// every is n addresses from one on, so far apart.
func every(from, apart, n int) []int {
	l := upTo(0, n)
	for i := range l {
		l[i] = from + i*apart
	}
	return l
}

// spread is n unlike addresses that lie all over, by a rule; many of them have one root.
func spread(n int) []int {
	var l []int
	for i := 0; len(l) < n; i++ {
		addr := ((i+1)*1000003 ^ i*i*77777) % 90 * 1004 * (1 + i%3*10000)
		if !slices.Contains(l, addr) {
			l = append(l, addr)
		}
	}
	return l
}

// addressSets is some sets of unlike addresses, of none to 64.
func addressSets() [][]int {
	all := [][]int{nil, {}, {0}, {7}, {8}, {2007}, {2008}, {lastKey}, {0, 2008}, {8, 2008}, {7, 8}, {2007, 2008}, {0, lastKey}, {0, 2008, 8}, {0, 1, 2, 8, 2008, 2009, 2016, 2000}, {lastKey, lastKey - 2008, lastKey - 7, lastKey - 8, 1872, 5}}
	for _, n := range []int{3, 20, 62, 63, 64} {
		all = append(all, every(0, 8, n), every(0, 1, n), every(0, 2008, n), every(lastKey, -2008, n), every(lastKey, -1, n), every(3, 250*8, n), every(100, 67, n), spread(n))
	}
	return all
}

// tables is some tables that may be, of none to 64 spots.
func tables() [][]api.Spot {
	all := [][]api.Spot{nil, {}}
	for _, addrs := range addressSets() {
		all = append(all, table(addrs...))
	}
	return all
}

func notAddresses() []int {
	return []int{leastInt, leastInt + 1, leastInt + 8, -power32, -power32 + 8, -2008, -16, -9, -8, -7, -1, power32, power32 + 1, power32 + 8, 1 << 40, mostInt - 1, mostInt}
}

func notRoots() []int {
	return []int{leastInt, leastInt + 1, -power32, -power32 + 1, -251, -250, -2, -1, 251, 252, 502, 2008, power32, power32 + 1, mostInt - 1, mostInt}
}

// badLines is lines that may not be.
func badLines() [][]int {
	twice := upTo(0, 64)
	twice[63] = 0
	return [][]int{{-1}, {leastInt}, {0, -1}, {-1, 0}, {1, 1}, {mostInt, mostInt}, {1, 2, 1}, {0, 0}, twice, upTo(0, 65), upTo(0, 1000), upTo(-1, 64)}
}

// badSpots is spots of an address that may not be.
func badSpots(addr int) []api.Spot {
	all := []api.Spot{count(addr, -1), count(addr, leastInt), count(addr, mostCount+1), count(addr, power32), count(addr, power32+1), count(addr, mostInt), {Addr: addr, Count: 1, Line: []int{1}}, {Addr: addr, Count: mostCount, Line: upTo(0, 64)}, {Addr: addr, Count: -1, Line: []int{1}}, {Addr: addr, Count: mostCount + 1, Line: []int{1}}, {Addr: addr, Count: -1, Line: []int{}}}
	for _, l := range badLines() {
		all = append(all, waits(addr, l...), api.Spot{Addr: addr, Count: 1, Line: l})
	}
	return all
}

// goodSpots is spots of an address that may be, empty ones among them.
func goodSpots(addr int) []api.Spot {
	return []api.Spot{{Addr: addr}, {Addr: addr, Line: []int{}}, count(addr, 1), {Addr: addr, Count: 1, Line: []int{}}, count(addr, mostCount), count(addr, mostCount-1), waits(addr, 0), waits(addr, mostInt), waits(addr, 4, 2), waits(addr, upTo(0, 63)...), waits(addr, upTo(7, 64)...)}
}

// wrongTables is tables that may not be, each for one of the chapter's reasons.
func wrongTables() [][]api.Spot {
	full := table(every(0, 8, 64)...)
	twice, down, gap := slices.Clone(full), slices.Clone(full), slices.Clone(full)
	twice[63] = twice[62]
	slices.Reverse(down)
	gap[63].Count, gap[63].Line = 0, nil
	all := [][]api.Spot{
		// Too many spots.
		table(every(0, 8, 65)...), table(every(0, 2008, 65)...), table(every(0, 1, 65)...), table(every(0, 8, 66)...), table(every(0, 1, 1000)...),
		// An empty spot.
		of(count(1, 0)), of(waits(1)), of(api.Spot{Addr: 1, Line: []int{}}), of(api.Spot{}), of(count(1, 1), count(8, 0)), of(count(1, 0), count(8, 1)), of(count(1, 1), count(8, 0), count(16, 1)), gap,
		// An address twice, beside each other or not.
		of(count(8, 1), count(8, 1)), of(count(8, 1), count(8, 2)), of(count(8, 1), waits(8, 1)), of(count(0, 1), count(8, 1), count(8, 1)), of(count(8, 1), count(8, 1), count(16, 1)), of(count(8, 1), count(16, 1), count(8, 1)), twice,
		// Out of order, by roots.
		of(count(8, 1), count(0, 1)), of(count(8, 1), count(2008, 1)), of(count(2000, 1), count(2008, 1)), of(count(2007, 1), count(2008, 1)), of(count(0, 1), count(16, 1), count(8, 1)), of(count(8, 1), count(16, 1), count(0, 1)), of(count(16, 1), count(8, 1), count(24, 1)), of(count(lastKey, 1), count(0, 1)), down,
		// Out of order, by addresses of one root.
		of(count(1, 1), count(0, 1)), of(count(2008, 1), count(0, 1)), of(count(2009, 1), count(2008, 1)), of(count(4016, 1), count(2008, 1)), of(count(0, 1), count(4016, 1), count(2008, 1)), of(count(2008, 1), count(4016, 1), count(0, 1), count(8, 1)), of(count(lastKey, 1), count(lastKey-2008, 1)), of(count(0, 1), count(15, 1), count(8, 1)),
	}
	for _, addr := range notAddresses() {
		all = append(all, of(count(addr, 1)), of(waits(addr, 1)), of(count(addr, 1), count(8, 1)), of(count(0, 1), count(8, 1), count(addr, 1)), of(count(0, 1), count(addr, 1), count(2000, 1)))
	}
	for _, s := range badSpots(8) {
		all = append(all, of(s), of(count(0, 1), s), of(s, count(16, 1)), of(count(0, 1), s, count(16, 1)))
	}
	return all
}

// asked is the addresses that tables are asked for: the edges, those of the table, and those next to them.
func asked(x []api.Spot) []int {
	all := []int{0, 1, 7, 8, 9, 15, 16, 2000, 2007, 2008, 2015, 2016, 4016, lastKey - 2008, lastKey - 8, lastKey - 1, lastKey}
	for _, s := range x {
		for _, d := range []int{0, -1, 1, 8, 2008} {
			if isAddress(s.Addr + d) {
				all = append(all, s.Addr+d)
			}
		}
	}
	slices.Sort(all)
	return slices.Compact(all)
}

func wantGet(x []api.Spot, addr int) api.Spot {
	for _, s := range x {
		if s.Addr == addr {
			return s
		}
	}
	return api.Spot{Addr: addr}
}

func wantSet(x []api.Spot, s api.Spot) ([]api.Spot, api.Errno) {
	after := slices.DeleteFunc(slices.Clone(x), func(other api.Spot) bool { return other.Addr == s.Addr })
	if !isEmpty(s) {
		after = append(after, s)
	}
	if len(after) > 64 {
		return nil, api.ErrFull
	}
	slices.SortFunc(after, func(a, b api.Spot) int { return rank(a) - rank(b) })
	return after, api.OK
}

func wantUnder(x []api.Spot, n int) []int {
	var all []int
	for _, s := range x {
		if rootOf(s.Addr) == n {
			all = append(all, s.Addr)
		}
	}
	slices.Sort(all)
	return all
}

func checkRight(t *testing.T, x []api.Spot, want bool) {
	t.Helper()
	h := roomy(x)
	if is := root.Right(h.spots); is != want || root.Right(x) != want {
		t.Fatalf("Right(%v) = %v", x, is)
	}
	h.checkKept(t)
}

func checkGet(t *testing.T, x []api.Spot, addr int, want api.Spot, why api.Errno) {
	t.Helper()
	h := roomy(x)
	s, e := root.Get(h.spots, addr)
	if !same(s, want) || e != why {
		t.Fatalf("Get(%v, %d) = %v, %d, not %v, %d", x, addr, s, e, want, why)
	}
	checkApart(t, []api.Spot{s}, h)
}

func checkSet(t *testing.T, x []api.Spot, s api.Spot, want []api.Spot, why api.Errno) {
	t.Helper()
	h, one := roomy(x), roomy(of(unused, s))
	after, e := root.Set(h.spots, one.spots[1])
	if !slices.EqualFunc(after, want, same) || e != why {
		t.Fatalf("Set(%v, %v) = %v, %d, not %v, %d", x, s, after, e, want, why)
	}
	if e == api.OK && !mayBe(after) {
		t.Fatalf("Set(%v, %v) = %v, which may not be", x, s, after)
	}
	checkApart(t, after, h, one)
}

func checkUnder(t *testing.T, x []api.Spot, n int, want []int, why api.Errno) {
	t.Helper()
	h := roomy(x)
	l, e := root.Under(h.spots, n)
	if !slices.Equal(l, want) || e != why {
		t.Fatalf("Under(%v, %d) = %v, %d, not %v, %d", x, n, l, e, want, why)
	}
	checkApart(t, of(waits(0, l...)), h)
}

// TestApi is of P9.1 and P9.2: the limits are those that package api names.
func TestApi(t *testing.T) {
	if api.Roots != 251 || api.MaxSpots != 64 || api.MaxCount != mostCount || api.MaxKey != lastKey {
		t.Error(api.Roots, api.MaxSpots, api.MaxCount, api.MaxKey)
	}
}

// TestExamples is of P9.1: the chapter's.
func TestExamples(t *testing.T) {
	for addr, want := range map[int]int{16: 2, 2008: 0} {
		if n, e := root.Root(addr); n != want || e != api.OK {
			t.Errorf("Root(%d) = %d, %d", addr, n, e)
		}
	}
}

// TestRoot is of P9.1 and P1: addresses at their edges, many counted one after the other, and what is no address, with 0 beside the error.
func TestRoot(t *testing.T) {
	for addr, want := range map[int]int{0: 0, 7: 0, 8: 1, 15: 1, 16: 2, 1999: 249, 2000: 250, 2007: 250, 2008: 0, 2015: 0, 2016: 1, 4015: 250, 4016: 0, 1 << 31: 243, lastKey: 234, lastKey - 7: 234, lastKey - 8: 233} {
		if n, e := root.Root(addr); n != want || e != api.OK {
			t.Errorf("Root(%d) = %d, %d, not %d", addr, n, e, want)
		}
	}
	for _, start := range []int{0, 2008 * 2138927} {
		for i := range 30000 {
			addr, want := start+i, i/8
			for want > 250 {
				want -= 251
			}
			why := api.OK
			if addr > lastKey {
				want, why = 0, api.ErrArg
			}
			if n, e := root.Root(addr); n != want || e != why {
				t.Fatalf("Root(%d) = %d, %d, not %d, %d", addr, n, e, want, why)
			}
		}
	}
	for _, addr := range notAddresses() {
		if n, e := root.Root(addr); n != 0 || e != api.ErrArg {
			t.Errorf("Root(%d) = %d, %d", addr, n, e)
		}
	}
}

// TestRight is of P9.1 and P1: tables that may be, and each way in which they may not.
func TestRight(t *testing.T) {
	for _, x := range tables() {
		if !mayBe(x) {
			t.Errorf("%v may not be", x)
		}
		checkRight(t, x, true)
	}
	for i, x := range wrongTables() {
		if mayBe(x) {
			t.Errorf("%d: %v may be", i, x)
		}
		checkRight(t, x, false)
	}
}

// TestRightOfSpots is of P9.1: a table of one spot, and of three with that one in the middle, may be as that spot may, if it is not empty.
func TestRightOfSpots(t *testing.T) {
	for _, addr := range []int{16, 2008 + 8, 8 + 7, 2008 + 24} {
		for _, s := range goodSpots(addr) {
			checkRight(t, of(s), !isEmpty(s))
			checkRight(t, of(count(8, 1), s, waits(2000, 3)), !isEmpty(s))
		}
		for _, s := range badSpots(addr) {
			checkRight(t, of(s), false)
			checkRight(t, of(count(8, 1), s, waits(2000, 3)), false)
		}
	}
	for _, addr := range []int{0, 7, 8, 16, 2007, 2008, lastKey} {
		checkRight(t, of(count(addr, 1)), true)
		checkRight(t, of(waits(addr, 1)), true)
		checkRight(t, of(count(addr, 0)), false)
	}
	for _, addr := range notAddresses() {
		checkRight(t, of(count(addr, 1)), false)
		checkRight(t, of(waits(addr, 1)), false)
	}
}

// TestRightOneOff is of P9.1: many spots, of which one has another address, another count or another line, or two of which are exchanged, or of which one stands twice.
func TestRightOneOff(t *testing.T) {
	for _, addrs := range [][]int{every(0, 8, 64), every(0, 2008, 64), every(5, 1, 63), spread(64)} {
		x := table(addrs...)
		for i, s := range x {
			for _, addr := range append(asked(x[max(i-1, 0):min(i+2, len(x))]), notAddresses()...) {
				y := slices.Clone(x)
				y[i].Addr = addr
				checkRight(t, y, mayBe(y))
			}
			for _, other := range append(badSpots(s.Addr), count(s.Addr, 0), api.Spot{Addr: s.Addr, Line: []int{}}) {
				y := slices.Clone(x)
				y[i] = other
				checkRight(t, y, false)
			}
			for j := range i {
				y := slices.Clone(x)
				y[i], y[j] = x[j], x[i]
				checkRight(t, y, false)
				y[i] = x[i]
				y[j] = x[i]
				checkRight(t, y, false)
			}
		}
	}
}

// TestRightOnSmall is of P9.1: all tables of at most three spots at some addresses.
func TestRightOnSmall(t *testing.T) {
	addrs := []int{0, 1, 7, 8, 2007, 2008, 2016, lastKey, power32, -1}
	for _, a := range addrs {
		checkRight(t, of(count(a, 1)), isAddress(a))
		for _, b := range addrs {
			two := of(count(a, 1), count(b, 1))
			checkRight(t, two, mayBe(two))
			for _, c := range addrs {
				three := of(count(a, 1), waits(b, 1), count(c, 2))
				checkRight(t, three, mayBe(three))
			}
		}
	}
}

// TestWrongTables is of P9.1 and P1: tables that may not be, with addresses, spots and roots that may be and that are none.
func TestWrongTables(t *testing.T) {
	for _, x := range wrongTables() {
		for _, addr := range append(notAddresses(), 0, 1, 7, 8, 16, 2007, 2008, lastKey) {
			checkGet(t, x, addr, api.Spot{}, api.ErrArg)
			for _, s := range of(count(addr, 0), count(addr, 1), waits(addr, 1), count(addr, -1), waits(addr, -1)) {
				checkSet(t, x, s, nil, api.ErrArg)
			}
		}
		for _, n := range append(notRoots(), 0, 1, 2, 249, 250) {
			checkUnder(t, x, n, nil, api.ErrArg)
		}
		for _, s := range append(goodSpots(8), badSpots(8)...) {
			checkSet(t, x, s, nil, api.ErrArg)
		}
	}
}

// TestWrongArguments is of P9.1 and P1: addresses, spots and roots that are none, with tables that may be; also where a spot would be one too many, or is empty.
func TestWrongArguments(t *testing.T) {
	for _, x := range tables() {
		for _, addr := range notAddresses() {
			checkGet(t, x, addr, api.Spot{}, api.ErrArg)
			for _, s := range append(goodSpots(addr), badSpots(addr)...) {
				checkSet(t, x, s, nil, api.ErrArg)
			}
		}
		for _, addr := range []int{0, 7, 8, 2008, 1000, lastKey} {
			for _, s := range badSpots(addr) {
				checkSet(t, x, s, nil, api.ErrArg)
			}
		}
		for _, n := range notRoots() {
			checkUnder(t, x, n, nil, api.ErrArg)
		}
	}
}

// TestGet is of P9.2: the spot of an address that a table has, and an empty one of any other.
func TestGet(t *testing.T) {
	for _, x := range tables() {
		for _, addr := range asked(x) {
			checkGet(t, x, addr, wantGet(x, addr), api.OK)
		}
	}
	x := of(count(0, 3), waits(2008, 4, 2), count(8, mostCount))
	checkGet(t, x, 0, count(0, 3), api.OK)
	checkGet(t, x, 2008, waits(2008, 4, 2), api.OK)
	checkGet(t, x, 8, count(8, mostCount), api.OK)
	checkGet(t, x, 1, count(1, 0), api.OK)
	checkGet(t, x, 4016, count(4016, 0), api.OK)
	checkGet(t, nil, lastKey, count(lastKey, 0), api.OK)
}

// TestSet is of P9.2: a spot comes to its place, instead of one of the same address, or leaves its address without one.
func TestSet(t *testing.T) {
	for _, x := range tables() {
		for i, addr := range asked(x) {
			for _, s := range of(count(addr, 0), filled(addr, i), waits(addr, 5, 0, 9)) {
				want, why := wantSet(x, s)
				checkSet(t, x, s, want, why)
			}
		}
		for _, s := range slices.Concat(goodSpots(0), goodSpots(2007), goodSpots(2008), goodSpots(lastKey)) {
			want, why := wantSet(x, s)
			checkSet(t, x, s, want, why)
		}
	}
}

// TestSetAtEdges is of P9.2: at the front, in the middle, at the end, under a root that has some and under one that has none.
func TestSetAtEdges(t *testing.T) {
	x := of(count(2008, 1), waits(16, 4), count(2024, 2))
	for _, c := range []struct {
		s    api.Spot
		want []api.Spot
	}{
		{count(0, 7), of(count(0, 7), count(2008, 1), waits(16, 4), count(2024, 2))},
		{count(2009, 7), of(count(2008, 1), count(2009, 7), waits(16, 4), count(2024, 2))},
		{waits(8, 7), of(count(2008, 1), waits(8, 7), waits(16, 4), count(2024, 2))},
		{count(17, 7), of(count(2008, 1), waits(16, 4), count(17, 7), count(2024, 2))},
		{count(4032, 7), of(count(2008, 1), waits(16, 4), count(2024, 2), count(4032, 7))},
		{count(24, 7), of(count(2008, 1), waits(16, 4), count(2024, 2), count(24, 7))},
		{count(2000, 7), of(count(2008, 1), waits(16, 4), count(2024, 2), count(2000, 7))},
		{count(2008, 7), of(count(2008, 7), waits(16, 4), count(2024, 2))},
		{waits(2008, 7), of(waits(2008, 7), waits(16, 4), count(2024, 2))},
		{count(16, 7), of(count(2008, 1), count(16, 7), count(2024, 2))},
		{waits(16), of(count(2008, 1), count(2024, 2))},
		{count(2008, 0), of(waits(16, 4), count(2024, 2))},
		{count(2024, 0), of(count(2008, 1), waits(16, 4))},
		{count(0, 0), x}, {count(4016, 0), x}, {count(2000, 0), x}, {waits(24), x},
	} {
		checkSet(t, x, c.s, c.want, api.OK)
	}
	checkSet(t, nil, count(5, 1), of(count(5, 1)), api.OK)
	checkSet(t, of(), waits(5, 1), of(waits(5, 1)), api.OK)
	checkSet(t, nil, count(5, 0), nil, api.OK)
	checkSet(t, of(), count(5, 0), nil, api.OK)
	checkSet(t, of(count(5, 1)), count(5, 0), nil, api.OK)
}

// TestSetAtFull is of P9.2: a table of 64 takes a spot of an address that it has, an empty one of any, and no other; one of 63 takes one more.
func TestSetAtFull(t *testing.T) {
	for _, addrs := range [][]int{every(8, 8, 64), every(8, 1, 64), every(8, 2008, 64), every(lastKey-9, -2008, 64)} {
		full := table(addrs...)
		for at, s := range full {
			without := slices.Delete(slices.Clone(full), at, at+1)
			other := slices.Clone(full)
			other[at] = waits(s.Addr, 77, 5)
			checkSet(t, full, other[at], other, api.OK)
			checkSet(t, full, count(s.Addr, 0), without, api.OK)
			checkSet(t, full, api.Spot{Addr: s.Addr, Line: []int{}}, without, api.OK)
			checkSet(t, without, s, full, api.OK)
			checkSet(t, without, count(s.Addr, 0), without, api.OK)
		}
		for _, addr := range []int{0, 7, 1000, 2008, 150000, lastKey, lastKey - 1} {
			if slices.Contains(addrs, addr) {
				t.Fatal(addr)
			}
			checkSet(t, full, count(addr, 1), nil, api.ErrFull)
			checkSet(t, full, waits(addr, 1), nil, api.ErrFull)
			checkSet(t, full, count(addr, 0), full, api.OK)
			checkSet(t, full, waits(addr), full, api.OK)
			checkSet(t, full, count(addr, -1), nil, api.ErrArg)
			checkSet(t, full, waits(addr, 1, 1), nil, api.ErrArg)
		}
	}
}

// TestUnder is of P9.2 and P9.3: each address of a table stands just under its root, rising; the other roots have none.
func TestUnder(t *testing.T) {
	for _, x := range tables() {
		found := 0
		for n := range 251 {
			want := wantUnder(x, n)
			checkUnder(t, x, n, want, api.OK)
			l, _ := root.Under(x, n)
			for i, addr := range l {
				if of, e := root.Root(addr); of != n || e != api.OK || i > 0 && l[i-1] >= addr {
					t.Errorf("Under(%v, %d) = %v", x, n, l)
				}
			}
			found += len(l)
		}
		if found != len(x) {
			t.Errorf("%v: %d are under the roots", x, found)
		}
	}
	x := of(count(0, 3), waits(7, 1), count(2008, 1), count(8, 5), count(2000, 1), count(2007, 1), count(4015, 1))
	checkUnder(t, x, 0, []int{0, 7, 2008}, api.OK)
	checkUnder(t, x, 1, []int{8}, api.OK)
	checkUnder(t, x, 2, nil, api.OK)
	checkUnder(t, x, 250, []int{2000, 2007, 4015}, api.OK)
}

// TestSetIsGot is of P9.3: what is set is got, and every other address has what it had.
func TestSetIsGot(t *testing.T) {
	for _, x := range tables() {
		addrs, had := asked(x), map[int]api.Spot{}
		for _, addr := range addrs {
			had[addr], _ = root.Get(x, addr)
		}
		for i := 0; i < len(addrs); i += 1 + len(addrs)/6 {
			for _, s := range of(count(addrs[i], 0), waits(addrs[i], 9, 1)) {
				after, e := root.Set(x, s)
				if e == api.ErrFull && len(x) == 64 {
					continue
				}
				for _, addr := range addrs {
					want := had[addr]
					if addr == s.Addr {
						want = s
					}
					if got, why := root.Get(after, addr); !same(got, want) || e != api.OK || why != api.OK {
						t.Fatalf("Set(%v, %v), and Get %d: %v, %d, %d, not %v", x, s, addr, got, e, why, want)
					}
				}
			}
		}
	}
}

// setAll is the table of spots that are set one after the other.
func setAll(t *testing.T, x []api.Spot, spots ...api.Spot) []api.Spot {
	t.Helper()
	for _, s := range spots {
		after, e := root.Set(x, s)
		if e != api.OK || !root.Right(after) {
			t.Fatalf("Set(%v, %v) = %v, %d", x, s, after, e)
		}
		x = after
	}
	return x
}

// TestInEachOrder is of P9.3: few unlike addresses are set in each order there is.
func TestInEachOrder(t *testing.T) {
	for _, addrs := range [][]int{{0, 8, 2008, 2016, lastKey}, {0, 1, 2, 3, 4}, {2000, 2007, 2008, 4015, 7}, {0, 2008, 4016, 6024, 8032}} {
		want := table(addrs...)
		var rest func(x, left []api.Spot)
		rest = func(x, left []api.Spot) {
			if len(left) == 0 && !slices.EqualFunc(x, want, same) {
				t.Fatalf("%v, not %v", x, want)
			}
			for i, s := range left {
				rest(setAll(t, x, s), slices.Delete(slices.Clone(left), i, i+1))
			}
		}
		rest(nil, want)
	}
}

// TestInAnyOrder is of P9.3: many unlike addresses are set rising, falling, and as strides have it; some of them had other spots, or went and came back.
func TestInAnyOrder(t *testing.T) {
	for _, addrs := range addressSets() {
		want, n := table(addrs...), len(addrs)
		for _, stride := range []int{1, 61, n - 1} {
			for _, pause := range []int{2, 5, 100} {
				var x []api.Spot
				for i := range n {
					s := want[(i*stride+2)%n]
					if i%pause == 1 {
						x = setAll(t, x, waits(s.Addr, 8), count(s.Addr, 0), count(s.Addr, 0), count(s.Addr, 9))
					}
					x = setAll(t, x, s)
				}
				if n > 0 && !slices.EqualFunc(x, want, same) {
					t.Fatalf("%v, not %v", x, want)
				}
			}
		}
	}
}

// TestComeAndGo is of P9.2 and P9.3: spots are set again and again; at each step the table has just those that it should, at each address, and under each root that there is.
func TestComeAndGo(t *testing.T) {
	for _, seed := range []int{1, 5, 12} {
		pool := append(every(seed, 2008, 20), every(seed*9, 500, 70)...)
		var x []api.Spot
		for step := range 500 {
			addr := pool[(step*step*7+step*seed)%90]
			s := filled(addr, step)
			if step%3 == 0 {
				s = count(addr, 0)
			}
			want, why := wantSet(x, s)
			after, e := root.Set(x, s)
			if !slices.EqualFunc(after, want, same) || e != why {
				t.Fatalf("step %d: Set(%v, %v) = %v, %d, not %v, %d", step, x, s, after, e, want, why)
			}
			if e == api.OK {
				x = after
			}
			checkGet(t, x, addr, wantGet(x, addr), api.OK)
			n, _ := root.Root(addr)
			checkUnder(t, x, n, wantUnder(x, n), api.OK)
		}
	}
}

// TestShared is of rule R4: tables that are made of one don't get in each other's way.
func TestShared(t *testing.T) {
	h := roomy(of(count(0, 1), waits(8, 4, 2)))
	a := setAll(t, h.spots, count(16, 1))
	b := setAll(t, h.spots, count(24, 1))
	c := setAll(t, a, count(32, 1))
	d := setAll(t, a, count(40, 1))
	e := setAll(t, h.spots, count(0, 0))
	f := setAll(t, h.spots, count(8, 1))
	for i, x := range [][2][]api.Spot{{a, of(count(0, 1), waits(8, 4, 2), count(16, 1))}, {b, of(count(0, 1), waits(8, 4, 2), count(24, 1))}, {c, of(count(0, 1), waits(8, 4, 2), count(16, 1), count(32, 1))}, {d, of(count(0, 1), waits(8, 4, 2), count(16, 1), count(40, 1))}, {e, of(waits(8, 4, 2))}, {f, of(count(0, 1), count(8, 1))}} {
		if !slices.EqualFunc(x[0], x[1], same) {
			t.Errorf("%d: %v, not %v", i, x[0], x[1])
		}
	}
	h.checkKept(t)
}
