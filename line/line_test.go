package line_test

import (
	"math"
	"slices"
	"testing"

	"deadbolt/api"
	"deadbolt/line"
)

const (
	leastInt = math.MinInt
	mostInt  = math.MaxInt
	power32  = 1 << 32
)

// unused fills the room behind a line's end, and is in no line.
const unused = 987654321

// roomy is the same line, with room behind its end.
func roomy(l []int) []int {
	room := make([]int, len(l)+5)
	copy(room, l)
	for i := len(l); i < len(room); i++ {
		room[i] = unused
	}
	return room[:len(l)]
}

// checkKept holds that a roomy line is as it was, and the room behind its end too.
func checkKept(t *testing.T, room, was []int) {
	t.Helper()
	if !slices.Equal(room, was) {
		t.Fatalf("%v was changed to %v", was, room)
	}
	for _, n := range room[len(was) : len(was)+5] {
		if n != unused {
			t.Fatalf("%d stands behind the end of %v", n, was)
		}
	}
}

// checkApart holds that an answer shares nothing with a roomy line: whatever is done to it, that stays.
func checkApart(t *testing.T, answer, room, was []int) {
	t.Helper()
	whole := answer[:cap(answer)]
	for i := range whole {
		whole[i] = -77
	}
	checkKept(t, room, was)
}

// upTo is a line of n, from one number on.
func upTo(from, n int) []int {
	l := make([]int, n)
	for i := range l {
		l[i] = from + i
	}
	return l
}

// with is a line with another number at a place.
func with(l []int, at, n int) []int {
	l = slices.Clone(l)
	l[at] = n
	return l
}

// shortLines is all lines of at most 5 numbers out of few, whether they may be or not.
func shortLines() [][]int {
	all := [][]int{{}}
	for from := 0; len(all[len(all)-1]) < 5; {
		till := len(all)
		for _, l := range all[from:till] {
			for _, n := range []int{-1, 0, 1, 2, mostInt} {
				all = append(all, append(slices.Clone(l), n))
			}
		}
		from = till
	}
	return append(all, nil)
}

// longLines is lines of 62 numbers to 65, and beyond, whether they may be or not.
func longLines() [][]int {
	var all [][]int
	for _, n := range []int{62, 63, 64, 65, 66, 128, 200} {
		for _, from := range []int{0, 1, 1000, power32 - 30, mostInt - n + 1} {
			l := upTo(from, n)
			down := slices.Clone(l)
			slices.Reverse(down)
			all = append(all, l, down)
		}
		l := upTo(3, n)
		all = append(all,
			with(l, 0, -1), with(l, n/2, -1), with(l, n-1, -1), with(l, n-1, leastInt), with(l, 0, mostInt), with(l, n-1, mostInt), with(l, n-1, 0),
			with(l, 1, 3), with(l, n-1, 3), with(l, n-1, l[n-2]), with(l, n/2, l[n/2-1]), make([]int, n))
	}
	return all
}

// mayBe tells whether a line may be: in order, its numbers rise from 0 at least.
func mayBe(l []int) bool {
	if len(l) > 64 {
		return false
	}
	l = slices.Sorted(slices.Values(l))
	for i, n := range l {
		if i == 0 && n < 0 || i > 0 && l[i-1] >= n {
			return false
		}
	}
	return true
}

// asked is whom lines are asked for: the least and the greatest ints, some small ones, and those of the line and next to them.
func asked(l []int) []int {
	all := []int{leastInt, leastInt + 1, -power32, -2, -1, 0, 1, 2, 3, 63, 64, 65, power32, mostInt - 1, mostInt}
	for _, n := range l {
		all = append(all, n, n+1, n-1)
	}
	slices.Sort(all)
	return slices.Compact(all)
}

// answer is what a call comes to; a line is told by its numbers alone.
type answer struct {
	line []int
	n    int
	e    api.Errno
}

func (a answer) same(b answer) bool {
	return slices.Equal(a.line, b.line) && a.n == b.n && a.e == b.e
}

// wrong is what is told of a line that may not be, or of who below 0.
var wrong = answer{e: api.ErrArg}

func wantPush(l []int, who int, first bool) answer {
	switch {
	case !mayBe(l) || who < 0:
		return wrong
	case slices.Contains(l, who):
		return answer{e: api.ErrTwice}
	case len(l) == 64:
		return answer{e: api.ErrFull}
	case first:
		return answer{line: slices.Insert(slices.Clone(l), 0, who)}
	}
	return answer{line: slices.Insert(slices.Clone(l), len(l), who)}
}

func wantPop(l []int) answer {
	switch {
	case !mayBe(l):
		return wrong
	case len(l) == 0:
		return answer{e: api.ErrNone}
	}
	return answer{line: slices.Clone(l[1:]), n: l[0]}
}

func wantDrop(l []int, who int) answer {
	switch {
	case !mayBe(l) || who < 0:
		return wrong
	case !slices.Contains(l, who):
		return answer{e: api.ErrNone}
	}
	return answer{line: slices.DeleteFunc(slices.Clone(l), func(n int) bool { return n == who })}
}

func wantPlace(l []int, who int) answer {
	switch {
	case !mayBe(l) || who < 0:
		return wrong
	case !slices.Contains(l, who):
		return answer{e: api.ErrNone}
	}
	ahead := 0
	for l[ahead] != who {
		ahead++
	}
	return answer{n: ahead}
}

func checkPush(t *testing.T, l []int, who int, first bool, want answer) {
	t.Helper()
	room := roomy(l)
	after, e := line.Push(room, who, first)
	if got := (answer{line: after, e: e}); !got.same(want) {
		t.Fatalf("Push(%v, %d, %v) = %v, not %v", l, who, first, got, want)
	}
	checkApart(t, after, room, l)
}

func checkPop(t *testing.T, l []int, want answer) {
	t.Helper()
	room := roomy(l)
	after, n, e := line.Pop(room)
	if got := (answer{after, n, e}); !got.same(want) {
		t.Fatalf("Pop(%v) = %v, not %v", l, got, want)
	}
	checkApart(t, after, room, l)
}

func checkDrop(t *testing.T, l []int, who int, want answer) {
	t.Helper()
	room := roomy(l)
	after, e := line.Drop(room, who)
	if got := (answer{line: after, e: e}); !got.same(want) {
		t.Fatalf("Drop(%v, %d) = %v, not %v", l, who, got, want)
	}
	checkApart(t, after, room, l)
}

func checkPlace(t *testing.T, l []int, who int, want answer) {
	t.Helper()
	room := roomy(l)
	n, e := line.Place(room, who)
	if got := (answer{n: n, e: e}); !got.same(want) {
		t.Fatalf("Place(%v, %d) = %v, not %v", l, who, got, want)
	}
	checkKept(t, room, l)
}

func checkRight(t *testing.T, l []int, want bool) {
	t.Helper()
	room := roomy(l)
	if is := line.Right(room); is != want {
		t.Fatalf("Right(%v) = %v", l, is)
	}
	checkKept(t, room, l)
}

// TestApi is of P7.1: the bound is the one that package api names.
func TestApi(t *testing.T) {
	if api.MaxLine != 64 {
		t.Error(api.MaxLine)
	}
}

// TestExamples is of P7.1 and P7.2: the chapter's.
func TestExamples(t *testing.T) {
	checkPush(t, []int{4, 2}, 7, true, answer{line: []int{7, 4, 2}})
	checkPlace(t, []int{4, 2}, 2, answer{n: 1})
}

// TestRightAtEdges is of P7.1 and P1: none, one, 64 and 65; 0, below 0, the least and the greatest ints; the same twice, next to each other and at both ends.
func TestRightAtEdges(t *testing.T) {
	for i, x := range []struct {
		l    []int
		want bool
	}{
		{nil, true}, {[]int{}, true}, {[]int{0}, true}, {[]int{5}, true}, {[]int{mostInt}, true}, {[]int{0, mostInt}, true}, {[]int{mostInt, mostInt - 1, 0, 1}, true}, {[]int{0, power32}, true}, {[]int{power32 + 1, 1}, true},
		{[]int{-1}, false}, {[]int{leastInt}, false}, {[]int{-power32}, false}, {[]int{-1, 0}, false}, {[]int{0, -1}, false}, {[]int{1, -1}, false}, {[]int{3, -1, 4}, false}, {[]int{0, leastInt}, false}, {[]int{mostInt, leastInt}, false}, {[]int{-1, -1}, false},
		{[]int{0, 0}, false}, {[]int{1, 1}, false}, {[]int{mostInt, mostInt}, false}, {[]int{1, 2, 1}, false}, {[]int{1, 2, 2}, false}, {[]int{1, 1, 2}, false}, {[]int{1, 2, 3, 1}, false}, {[]int{3, 1, 2, 1, 4}, false}, {[]int{0, 1, 0}, false},
		{upTo(0, 63), true}, {upTo(0, 64), true}, {upTo(0, 65), false}, {upTo(mostInt-63, 64), true}, {upTo(-1, 64), false}, {upTo(-64, 64), false}, {upTo(0, 1000), false},
		{with(upTo(0, 64), 63, 0), false}, {with(upTo(0, 64), 63, 62), false}, {with(upTo(0, 64), 1, 0), false}, {with(upTo(0, 64), 40, 17), false}, {with(upTo(0, 64), 63, -1), false}, {with(upTo(0, 64), 0, -1), false}, {with(upTo(0, 64), 63, mostInt), true},
		{with(upTo(0, 65), 64, 0), false}, {with(upTo(0, 65), 64, -1), false}, {make([]int, 64), false},
	} {
		if is := line.Right(x.l); is != x.want {
			t.Errorf("%d: Right(%v) = %v", i, x.l, is)
		}
		checkRight(t, x.l, x.want)
	}
}

// TestTwiceAnywhere is of P7.1: whichever two of a full line are one, and whichever one is below 0, it may not be.
func TestTwiceAnywhere(t *testing.T) {
	full := upTo(0, 64)
	for i := range full {
		checkRight(t, with(full, i, -1), false)
		checkRight(t, with(full, i, leastInt+i), false)
		checkRight(t, with(full, i, 64), true)
		for j := range full {
			checkRight(t, with(full, i, j), i == j)
		}
	}
}

// TestAll is of P7.1, P7.2 and P1: all calls on all short lines and some long ones, those that may not be among them, with everybody who is in them, next to them, and below 0; what is handed in stays.
func TestAll(t *testing.T) {
	for _, l := range slices.Concat(shortLines(), longLines()) {
		checkRight(t, l, mayBe(l))
		checkPop(t, l, wantPop(l))
		for _, who := range asked(l) {
			checkPush(t, l, who, true, wantPush(l, who, true))
			checkPush(t, l, who, false, wantPush(l, who, false))
			checkDrop(t, l, who, wantDrop(l, who))
			checkPlace(t, l, who, wantPlace(l, who))
		}
	}
}

// TestPushAtEdges is of P7.1: the first one, the last one that may come, and none any more; who is there already is told ahead of that there is no room.
func TestPushAtEdges(t *testing.T) {
	full := upTo(0, 64)
	for _, x := range []struct {
		l           []int
		who         int
		first, last answer
	}{
		{nil, 0, answer{line: []int{0}}, answer{line: []int{0}}}, {[]int{}, mostInt, answer{line: []int{mostInt}}, answer{line: []int{mostInt}}},
		{[]int{4, 2}, 0, answer{line: []int{0, 4, 2}}, answer{line: []int{4, 2, 0}}}, {[]int{4, 2}, mostInt, answer{line: []int{mostInt, 4, 2}}, answer{line: []int{4, 2, mostInt}}}, {[]int{2, 9}, 5, answer{line: []int{5, 2, 9}}, answer{line: []int{2, 9, 5}}},
		{upTo(1, 63), 0, answer{line: full}, answer{line: append(upTo(1, 63), 0)}}, {upTo(0, 63), 63, answer{line: append([]int{63}, upTo(0, 63)...)}, answer{line: full}}, {upTo(0, 62), 99, answer{line: append([]int{99}, upTo(0, 62)...)}, answer{line: append(upTo(0, 62), 99)}},
		{full, 64, answer{e: api.ErrFull}, answer{e: api.ErrFull}}, {full, mostInt, answer{e: api.ErrFull}, answer{e: api.ErrFull}}, {upTo(1, 64), 0, answer{e: api.ErrFull}, answer{e: api.ErrFull}},
		{full, 0, answer{e: api.ErrTwice}, answer{e: api.ErrTwice}}, {full, 30, answer{e: api.ErrTwice}, answer{e: api.ErrTwice}}, {full, 63, answer{e: api.ErrTwice}, answer{e: api.ErrTwice}},
		{[]int{4, 2}, 4, answer{e: api.ErrTwice}, answer{e: api.ErrTwice}}, {[]int{4, 2}, 2, answer{e: api.ErrTwice}, answer{e: api.ErrTwice}}, {[]int{0}, 0, answer{e: api.ErrTwice}, answer{e: api.ErrTwice}}, {upTo(0, 63), 62, answer{e: api.ErrTwice}, answer{e: api.ErrTwice}},
		{full, -1, wrong, wrong}, {nil, -1, wrong, wrong}, {nil, leastInt, wrong, wrong}, {[]int{-1}, -1, wrong, wrong}, {[]int{4, 2}, -power32 + 4, wrong, wrong},
		{upTo(0, 65), 0, wrong, wrong}, {upTo(0, 65), 65, wrong, wrong}, {upTo(0, 65), -1, wrong, wrong}, {[]int{1, 1}, 1, wrong, wrong}, {[]int{1, 1}, 2, wrong, wrong}, {[]int{-1}, 2, wrong, wrong}, {with(full, 63, 0), 0, wrong, wrong}, {with(full, 63, 0), 99, wrong, wrong},
	} {
		checkPush(t, x.l, x.who, true, x.first)
		checkPush(t, x.l, x.who, false, x.last)
	}
}

// TestPopAtEdges is of P7.2: none, one, 64, and lines that may not be.
func TestPopAtEdges(t *testing.T) {
	for _, x := range []struct {
		l    []int
		want answer
	}{
		{nil, answer{e: api.ErrNone}}, {[]int{}, answer{e: api.ErrNone}}, {[]int{0}, answer{}}, {[]int{mostInt}, answer{n: mostInt}}, {[]int{4, 2}, answer{line: []int{2}, n: 4}}, {[]int{0, 9, 5}, answer{line: []int{9, 5}}}, {upTo(5, 64), answer{line: upTo(6, 63), n: 5}}, {upTo(5, 63), answer{line: upTo(6, 62), n: 5}},
		{upTo(5, 65), wrong}, {[]int{-1}, wrong}, {[]int{leastInt}, wrong}, {[]int{-1, 3}, wrong}, {[]int{3, -1}, wrong}, {[]int{3, 3}, wrong}, {[]int{3, 4, 3}, wrong}, {[]int{3, 4, 4}, wrong}, {with(upTo(5, 64), 63, 5), wrong}, {with(upTo(5, 64), 63, leastInt), wrong},
	} {
		checkPop(t, x.l, x.want)
	}
}

// TestDropAndPlaceAtEdges is of P7.2: who at the front, in the middle, at the end, and not there.
func TestDropAndPlaceAtEdges(t *testing.T) {
	none := answer{e: api.ErrNone}
	for _, x := range []struct {
		l           []int
		who         int
		drop, place answer
	}{
		{[]int{4, 2, 7}, 4, answer{line: []int{2, 7}}, answer{}}, {[]int{4, 2, 7}, 2, answer{line: []int{4, 7}}, answer{n: 1}}, {[]int{4, 2, 7}, 7, answer{line: []int{4, 2}}, answer{n: 2}},
		{[]int{0}, 0, answer{}, answer{}}, {[]int{mostInt}, mostInt, answer{}, answer{}}, {[]int{5, 0}, 0, answer{line: []int{5}}, answer{n: 1}}, {[]int{5, mostInt}, mostInt, answer{line: []int{5}}, answer{n: 1}},
		{upTo(1, 64), 1, answer{line: upTo(2, 63)}, answer{}}, {upTo(1, 64), 64, answer{line: upTo(1, 63)}, answer{n: 63}}, {upTo(1, 64), 33, answer{line: slices.Concat(upTo(1, 32), upTo(34, 31))}, answer{n: 32}}, {upTo(1, 63), 63, answer{line: upTo(1, 62)}, answer{n: 62}},
		{nil, 0, none, none}, {[]int{}, 3, none, none}, {[]int{4, 2, 7}, 0, none, none}, {[]int{4, 2, 7}, 3, none, none}, {[]int{4, 2, 7}, mostInt, none, none}, {[]int{4, 2, 7}, power32 + 4, none, none}, {upTo(1, 64), 0, none, none}, {upTo(1, 64), 65, none, none},
		{[]int{4, 2, 7}, -1, wrong, wrong}, {nil, -1, wrong, wrong}, {[]int{}, leastInt, wrong, wrong}, {upTo(1, 64), -1, wrong, wrong}, {[]int{-1}, -1, wrong, wrong}, {[]int{leastInt, 3}, leastInt, wrong, wrong},
		{upTo(1, 65), 1, wrong, wrong}, {upTo(1, 65), 65, wrong, wrong}, {upTo(1, 65), 99, wrong, wrong}, {upTo(1, 65), -1, wrong, wrong}, {[]int{3, 3}, 3, wrong, wrong}, {[]int{3, 3}, 9, wrong, wrong}, {[]int{3, -1}, 3, wrong, wrong}, {[]int{3, 4, 3}, 4, wrong, wrong}, {[]int{3, -1}, -1, wrong, wrong},
	} {
		checkDrop(t, x.l, x.who, x.drop)
		checkPlace(t, x.l, x.who, x.place)
	}
}

// popped is all of a line, in the order in which they are popped.
func popped(t *testing.T, l []int) []int {
	t.Helper()
	var order []int
	for len(l) > 0 {
		rest, next, e := line.Pop(l)
		if e != api.OK || len(rest) != len(l)-1 {
			t.Fatalf("Pop(%v) = %v, %d, %d", l, rest, next, e)
		}
		order, l = append(order, next), rest
	}
	return order
}

// TestPoppedAsTheyStand is of P7.3: who comes last is popped behind all that were there, who comes first ahead of them, and those between as they would have been.
func TestPoppedAsTheyStand(t *testing.T) {
	for n := range 64 {
		l := upTo(100, n)
		for i := range l {
			l[i] = (l[i] * 37) % 1009
		}
		were := popped(t, l)
		last, _ := line.Push(l, 2000, false)
		if got := popped(t, last); !slices.Equal(got, append(slices.Clone(were), 2000)) {
			t.Errorf("%v, and 2000 last: %v", l, got)
		}
		first, _ := line.Push(l, 2000, true)
		if got := popped(t, first); !slices.Equal(got, append([]int{2000}, were...)) {
			t.Errorf("%v, and 2000 first: %v", l, got)
		}
	}
}

// TestComeAndGo is of P7.3: many come, at either end, and go, from anywhere; whoever stays keeps his order, and who comes back is a newcomer.
func TestComeAndGo(t *testing.T) {
	for _, pace := range []int{3, 5, 7, 11, 64} {
		var l, want []int
		for step := range 400 {
			who, first := step*29%97, step%pace == 1
			switch {
			case slices.Contains(want, who):
				at := slices.Index(want, who)
				if n, e := line.Place(l, who); n != at || e != api.OK {
					t.Fatalf("Place(%v, %d) = %d, %d", l, who, n, e)
				}
				l, _ = line.Drop(l, who)
				want = slices.Delete(want, at, at+1)
			case len(want) == 64 || step%pace == 2 && len(want) > 0:
				rest, next, e := line.Pop(l)
				if next != want[0] || e != api.OK {
					t.Fatalf("Pop(%v) = %d, %d, not %d", l, next, e, want[0])
				}
				l, want = rest, want[1:]
			case first:
				l, _ = line.Push(l, who, true)
				want = slices.Insert(slices.Clone(want), 0, who)
			default:
				l, _ = line.Push(l, who, false)
				want = append(slices.Clone(want), who)
			}
			if !slices.Equal(l, want) || !line.Right(l) {
				t.Fatalf("step %d at a pace of %d: %v, not %v", step, pace, l, want)
			}
		}
		if got := popped(t, l); !slices.Equal(got, want) {
			t.Errorf("at a pace of %d: %v, not %v", pace, got, want)
		}
	}
}

// TestThereAndBack is of P7.3: who comes first is the next one, and gone again the line is as it was; likewise who comes last and is dropped.
func TestThereAndBack(t *testing.T) {
	for _, l := range slices.Concat(shortLines(), longLines()) {
		if !mayBe(l) || len(l) == 64 {
			continue
		}
		first, e := line.Push(l, 555, true)
		rest, next, why := line.Pop(first)
		if next != 555 || !slices.Equal(rest, l) || e != api.OK || why != api.OK {
			t.Errorf("Push(%v, 555, true), and Pop: %v, %d, %d, %d", l, rest, next, e, why)
		}
		last, e := line.Push(l, 555, false)
		ahead, why := line.Place(last, 555)
		back, no := line.Drop(last, 555)
		if ahead != len(l) || !slices.Equal(back, l) || e != api.OK || why != api.OK || no != api.OK {
			t.Errorf("Push(%v, 555, false), Place, and Drop: %d, %v, %d, %d, %d", l, ahead, back, e, why, no)
		}
	}
}

// TestSharedRoom is of rule R4: two lines that are made of one with room behind its end don't get in each other's way.
func TestSharedRoom(t *testing.T) {
	from := roomy([]int{4, 2})
	a, _ := line.Push(from, 7, false)
	b, _ := line.Push(from, 8, false)
	c, _ := line.Push(a, 9, false)
	d, _ := line.Push(a, 10, false)
	e, _ := line.Drop(from, 4)
	f, _ := line.Drop(from, 2)
	for i, x := range [][2][]int{{from, {4, 2}}, {a, {4, 2, 7}}, {b, {4, 2, 8}}, {c, {4, 2, 7, 9}}, {d, {4, 2, 7, 10}}, {e, {2}}, {f, {4}}} {
		if !slices.Equal(x[0], x[1]) {
			t.Errorf("%d: %v, not %v", i, x[0], x[1])
		}
	}
	checkKept(t, from, []int{4, 2})
}
