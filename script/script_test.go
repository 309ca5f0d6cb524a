package script_test

import (
	"math"
	"math/big"
	"slices"
	"testing"

	"deadbolt/api"
	"deadbolt/script"
)

const (
	mostTime = 1 << 62
	leastInt = math.MinInt
	mostInt  = math.MaxInt
)

func step(who int) api.Pick { return api.Pick{Kind: 0, N: who} }
func tick(d int) api.Pick   { return api.Pick{Kind: 1, N: d} }

// edges is the numbers at which something changes, and what is around them, on both sides of 0.
func edges() []int {
	return []int{
		0, 1, 2, 5, 7, 8, 9, 14, 15, 16, 17, 18, 30, 31, 32, 33, 255, 256, 1000000, 1<<31 - 1, 1 << 31, 1 << 32, 1<<32 + 15,
		1<<61 - 1, 1 << 61, 1<<61 + 1, mostTime - 1, mostTime, mostTime + 1, mostTime + 15, mostTime + 16, mostInt - 16, mostInt - 15, mostInt - 1, mostInt,
		-1, -2, -3, -5, -7, -15, -16, -17, -31, -32, -33, -1000000, -1 << 31, -1 << 32,
		-1<<61 + 1, -1 << 61, -1<<61 - 1, -mostTime + 2, -mostTime + 1, -mostTime, -mostTime - 1, -mostTime - 2, leastInt + 16, leastInt + 15, leastInt + 2, leastInt + 1, leastInt,
	}
}

// read is the pick that a number is read as, worked out without bounds.
func read(v int) api.Pick {
	n := big.NewInt(int64(v))
	if n.Sign() >= 0 {
		return step(int(n.Mod(n, big.NewInt(16)).Int64()))
	}
	n.Neg(n)
	if last := big.NewInt(mostTime); n.Cmp(last) > 0 {
		n = last
	}
	return tick(int(n.Int64()))
}

// readAll is the picks of numbers, one by one.
func readAll(l []int) []api.Pick {
	var all []api.Pick
	for _, v := range l {
		all = append(all, read(v))
	}
	return all
}

// total is what the ticks of numbers come to, worked out without bounds, or that it is too much.
func total(l []int) (int, api.Errno) {
	sum := new(big.Int)
	for _, v := range l {
		if p := read(v); p.Kind == 1 {
			sum.Add(sum, big.NewInt(int64(p.N)))
		}
	}
	if sum.Cmp(big.NewInt(mostTime)) > 0 {
		return 0, 10
	}
	return int(sum.Int64()), 0
}

// share is how many of the numbers are somebody's steps.
func share(l []int, who int) int {
	n := 0
	for _, v := range l {
		if read(v) == step(who) {
			n++
		}
	}
	return n
}

// whos is everybody who can be told to step, and numbers of nobody.
func whos() []int {
	l := []int{16, 17, 18, 31, 32, 33, 255, 256, 1 << 32, 1<<32 + 1, mostTime, mostInt - 1, mostInt, -1, -2, -5, -15, -16, -17, -1 << 32, -mostTime, leastInt + 1, leastInt}
	for who := range 16 {
		l = append(l, who)
	}
	return l
}

// turning is n numbers of the edges, from one of them on, each so many behind the one ahead of it.
func turning(n, from, by int) []int {
	all := edges()
	l := make([]int, n)
	for i := range l {
		l[i] = all[(from+i*by)%len(all)]
	}
	return l
}

// short is all rows of up to three numbers out of a few.
func short() [][]int {
	of := []int{0, 1, 15, 16, -1, -2, -1 << 61, -mostTime + 1, -mostTime, leastInt}
	all, last := [][]int{nil}, [][]int{nil}
	for range 3 {
		var longer [][]int
		for _, l := range last {
			for _, v := range of {
				longer = append(longer, append(slices.Clone(l), v))
			}
		}
		all, last = append(all, longer...), longer
	}
	return all
}

// rows is rows of none, of one and of many numbers.
func rows() [][]int {
	all := [][]int{nil, {}, edges(), slices.Repeat([]int{3}, 1000), slices.Repeat([]int{-3}, 1000), slices.Repeat([]int{-mostTime}, 9)}
	for _, v := range edges() {
		all = append(all, []int{v}, []int{v, v})
	}
	for _, n := range []int{3, 10, 64, 300} {
		for _, by := range []int{1, 2, 7, 11} {
			all = append(all, turning(n, n, by), turning(n, by, n+by))
		}
	}
	return append(all, plain(100, 1), plain(1000, 7), plain(20000, 11), plain(20001, 5))
}

// plain is n numbers, steps and short ticks, by a rule.
func plain(n, by int) []int {
	l := make([]int, n)
	for i := range l {
		l[i] = i*by%53 - 19
	}
	return l
}

func checkRead(t *testing.T, v int, want api.Pick) {
	t.Helper()
	if p := script.Read(v); p != want {
		t.Errorf("Read(%d) = %v, not %v", v, p, want)
	}
}

func checkRight(t *testing.T, p api.Pick, want bool) {
	t.Helper()
	if is := script.Right(p); is != want {
		t.Errorf("Right(%v) = %t", p, is)
	}
}

func checkWrite(t *testing.T, p api.Pick, want int, why api.Errno) {
	t.Helper()
	if n, e := script.Write(p); n != want || e != why {
		t.Errorf("Write(%v) = %d, %d, not %d, %d", p, n, e, want, why)
	}
}

func checkAll(t *testing.T, l []int, want []api.Pick) {
	t.Helper()
	if all := script.All(l); !slices.Equal(all, want) {
		t.Errorf("All(%.20v) = %.20v, not %.20v", l, all, want)
	}
}

func checkTime(t *testing.T, l []int, want int, why api.Errno) {
	t.Helper()
	if n, e := script.Time(l); n != want || e != why {
		t.Errorf("Time(%.20v) = %d, %d, not %d, %d", l, n, e, want, why)
	}
}

func checkShare(t *testing.T, l []int, who, want int) {
	t.Helper()
	if n := script.Share(l, who); n != want {
		t.Errorf("Share(%.20v, %d) = %d, not %d", l, who, n, want)
	}
}

// checkRow holds all that is told of a row of numbers.
func checkRow(t *testing.T, l []int) {
	t.Helper()
	checkAll(t, l, readAll(l))
	n, why := total(l)
	checkTime(t, l, n, why)
	for _, who := range whos() {
		checkShare(t, l, who, share(l, who))
	}
}

// TestApi is of P13.1 and P13.2: the kinds, the last time and the errors are those that the document names.
func TestApi(t *testing.T) {
	if api.PStep != 0 || api.PTick != 1 || api.MaxTime != mostTime {
		t.Error(api.PStep, api.PTick, api.MaxTime)
	}
	if api.OK != 0 || api.ErrArg != 1 || api.ErrOver != 10 {
		t.Error(api.OK, api.ErrArg, api.ErrOver)
	}
}

// TestExamples is of P13.1: the chapter's.
func TestExamples(t *testing.T) {
	checkAll(t, []int{17, -5}, []api.Pick{step(1), tick(5)})
}

// TestReadAtEdges is of P13.1: what the document names, told one by one.
func TestReadAtEdges(t *testing.T) {
	for v, want := range map[int]api.Pick{
		0: step(0), 1: step(1), 2: step(2), 14: step(14), 15: step(15), 16: step(0), 17: step(1), 31: step(15), 32: step(0), 33: step(1),
		mostTime - 1: step(15), mostTime: step(0), mostTime + 1: step(1), mostInt - 15: step(0), mostInt - 1: step(14), mostInt: step(15),
		-1: tick(1), -2: tick(2), -15: tick(15), -16: tick(16), -17: tick(17), -mostTime + 1: tick(mostTime - 1), -mostTime: tick(mostTime),
		-mostTime - 1: tick(mostTime), -mostTime - 2: tick(mostTime), leastInt + 1: tick(mostTime), leastInt: tick(mostTime),
	} {
		checkRead(t, v, want)
	}
}

// TestRead is of P13.1 and P13.3: any number, those near 0, those around each power of two and those at both ends among them, is read as a pick that may be.
func TestRead(t *testing.T) {
	l := edges()
	for v := range 5000 {
		l = append(l, v, -v, mostInt-v, leastInt+v, mostTime-2500+v, -mostTime-2500+v)
	}
	for bit := range 63 {
		for near := -33; near <= 33; near++ {
			l = append(l, 1<<bit+near, -1<<bit+near)
		}
	}
	for _, v := range l {
		checkRead(t, v, read(v))
		checkRight(t, script.Read(v), true)
	}
}

// mayPicks is picks that may be, each beside the number that it is written as: all steps, and ticks at the edges and near 0.
func mayPicks() map[api.Pick]int {
	m := map[api.Pick]int{}
	for who := range 16 {
		m[step(who)] = who
	}
	for d := 1; d < 2000; d++ {
		m[tick(d)] = -d
	}
	for bit := range 63 {
		m[tick(1<<bit)] = -1 << bit
	}
	for near := range 100 {
		m[tick(mostTime-near)] = near - mostTime
		m[tick(1<<61+near)] = -1<<61 - near
	}
	return m
}

// mayNotPicks is picks that may not be: of kinds that there are not, steps of nobody, and ticks of nothing, of less, and of more than there is time.
func mayNotPicks() []api.Pick {
	var l []api.Pick
	for _, kind := range []int{-1, 2, 3, -2, 15, 16, 256, 257, 1 << 32, 1<<32 + 1, mostTime, leastInt, leastInt + 1, mostInt - 1, mostInt} {
		for _, n := range []int{0, 1, 5, 15, 16, -1, mostTime - 1, mostTime, mostTime + 1, mostInt, leastInt} {
			l = append(l, api.Pick{Kind: kind, N: n})
		}
	}
	for _, n := range []int{16, 17, 31, 32, 256, 1 << 32, 1<<32 + 1, mostTime - 1, mostTime, mostTime + 1, mostInt - 1, mostInt} {
		l = append(l, step(n))
	}
	for _, n := range []int{-1, -2, -15, -16, -256, -1 << 32, -mostTime + 1, -mostTime, -mostTime - 1, leastInt + 1, leastInt} {
		l = append(l, step(n), tick(n))
	}
	return append(l, tick(0), tick(mostTime+1), tick(mostTime+2), tick(mostTime+1<<61), tick(mostInt-1), tick(mostInt))
}

// TestRight is of P13.1: picks that may be, and picks that may not.
func TestRight(t *testing.T) {
	for p := range mayPicks() {
		checkRight(t, p, true)
	}
	for _, p := range mayNotPicks() {
		checkRight(t, p, false)
	}
}

// TestRightAtEdges is of P13.1: each kind beside each number that the document names.
func TestRightAtEdges(t *testing.T) {
	numbers := []int{leastInt, -1, 0, 1, 15, 16, mostTime - 1, mostTime, mostTime + 1, mostInt}
	may := map[int][]int{api.PStep: {0, 1, 15}, api.PTick: {1, 15, 16, mostTime - 1, mostTime}}
	for _, kind := range []int{api.PStep, api.PTick, -1, 2, mostInt, leastInt} {
		for _, n := range numbers {
			checkRight(t, api.Pick{Kind: kind, N: n}, slices.Contains(may[kind], n))
		}
	}
}

// TestWrite is of P13.1 and P13.3: what may be is written as one number, which is read as it.
func TestWrite(t *testing.T) {
	for p, want := range mayPicks() {
		checkWrite(t, p, want, api.OK)
		checkRead(t, want, p)
	}
}

// TestWriteIsNearest is of P13.1: no number between 0 and the one that is written is read as the same, nor is the one next to it on the side of 0.
func TestWriteIsNearest(t *testing.T) {
	for p := range mayPicks() {
		v, _ := script.Write(p)
		switch {
		case p.Kind == api.PStep && v < 0, p.Kind == api.PTick && v >= 0:
			t.Errorf("Write(%v) = %d", p, v)
		case v < 0 && script.Read(v+1) == p:
			t.Errorf("Write(%v) = %d, and %d is read as it", p, v, v+1)
		}
		for n := range min(max(v, 0), 100) {
			if script.Read(n) == p {
				t.Errorf("Write(%v) = %d, and %d is read as it", p, v, n)
			}
		}
		for n := range min(max(-v, 0), 2000) {
			if script.Read(-n) == p {
				t.Errorf("Write(%v) = %d, and %d is read as it", p, v, -n)
			}
		}
	}
}

// TestWriteWrong is of P13.1 and rule R2: what may not be is not written, and beside the error there is nothing.
func TestWriteWrong(t *testing.T) {
	for _, p := range mayNotPicks() {
		checkWrite(t, p, 0, api.ErrArg)
	}
}

// TestWrittenAgain is of P13.3: any number that is read, written, and read again, is the same pick; written again it is the same number.
func TestWrittenAgain(t *testing.T) {
	for _, v := range edges() {
		p := script.Read(v)
		n, e := script.Write(p)
		if e != api.OK || script.Read(n) != p {
			t.Errorf("%d: %v is written as %d, %d, and that is read as %v", v, p, n, e, script.Read(n))
		}
		checkWrite(t, script.Read(n), n, api.OK)
	}
}

// TestAll is of P13.1: none, one and many numbers, each at each place.
func TestAll(t *testing.T) {
	checkAll(t, nil, nil)
	checkAll(t, []int{}, nil)
	checkAll(t, []int{0}, []api.Pick{step(0)})
	checkAll(t, []int{-1}, []api.Pick{tick(1)})
	checkAll(t, []int{leastInt}, []api.Pick{tick(mostTime)})
	checkAll(t, []int{0, 0, 0}, []api.Pick{step(0), step(0), step(0)})
	checkAll(t, []int{15, -2, 16, mostInt, -mostTime - 1, 1}, []api.Pick{step(15), tick(2), step(0), step(15), tick(mostTime), step(1)})
	checkAll(t, []int{1, mostInt, -mostTime - 1, 16, -2, 15}, []api.Pick{step(1), step(15), tick(mostTime), step(0), tick(2), step(15)})
	for _, l := range rows() {
		checkAll(t, l, readAll(l))
	}
}

// TestTimeAtEdges is of P13.2: what the document names, told one by one.
func TestTimeAtEdges(t *testing.T) {
	for _, x := range []struct {
		l    []int
		want int
	}{
		{nil, 0}, {[]int{}, 0}, {[]int{0}, 0}, {[]int{1, 15, 16, mostInt}, 0}, {[]int{mostTime, mostTime, mostTime}, 0}, {[]int{-1}, 1}, {[]int{-1, -1}, 2}, {[]int{1, -5, 17, 2, -7}, 12},
		{[]int{-mostTime}, mostTime}, {[]int{-mostTime - 1}, mostTime}, {[]int{leastInt}, mostTime}, {[]int{0, -mostTime, 5}, mostTime}, {[]int{7, 7, leastInt, 7}, mostTime},
		{[]int{-mostTime + 1}, mostTime - 1}, {[]int{-mostTime + 1, -1}, mostTime}, {[]int{-1, -mostTime + 1}, mostTime}, {[]int{-mostTime + 2, -1, -1}, mostTime}, {[]int{-1, 3, -mostTime + 2, 3, -1}, mostTime},
		{[]int{-1 << 61, -1 << 61}, mostTime}, {[]int{-1 << 60, -1 << 60, -1 << 60, -1 << 60}, mostTime}, {[]int{-1<<61 + 1, 9, -1 << 61}, mostTime - 1},
	} {
		checkTime(t, x.l, x.want, api.OK)
	}
}

// TestTimeOver is of P13.2 and rule R2: ticks that are too much together, if by 1 alone, wherever they stand; also where their sum, as one of Go's ints, would be a time again.
func TestTimeOver(t *testing.T) {
	over := [][]int{
		{-mostTime, -1}, {-1, -mostTime}, {-mostTime + 1, -2}, {-2, -mostTime + 1}, {-mostTime + 1, -1, -1}, {-1, -mostTime + 1, -1}, {-1 << 61, -1<<61 - 1}, {-1<<61 - 1, -1 << 61}, {-1 << 61, -1 << 61, -1},
		{leastInt, -1}, {-1, leastInt}, {leastInt, leastInt}, {-mostTime, -mostTime}, {-mostTime - 1, -1}, {-mostTime, -mostTime, -mostTime},
		slices.Repeat([]int{-mostTime}, 4), slices.Repeat([]int{-mostTime}, 5), slices.Repeat([]int{leastInt}, 8), slices.Repeat([]int{-1 << 61}, 8), slices.Repeat([]int{-1 << 61}, 9), slices.Repeat([]int{-1 << 60}, 17),
		append(slices.Repeat([]int{-mostTime}, 4), -1), append([]int{-5}, slices.Repeat([]int{leastInt}, 4)...),
	}
	for _, l := range over {
		checkTime(t, l, 0, api.ErrOver)
		for at := range len(l) + 1 {
			checkTime(t, slices.Insert(slices.Clone(l), at, 0), 0, api.ErrOver)
			checkTime(t, slices.Insert(slices.Clone(l), at, 15, mostInt, mostTime, 3), 0, api.ErrOver)
			checkTime(t, slices.Insert(slices.Clone(l), at, -1), 0, api.ErrOver)
			checkTime(t, slices.Insert(slices.Clone(l), at, leastInt), 0, api.ErrOver)
		}
	}
	for at := range 300 {
		l := slices.Repeat([]int{2}, 300)
		l[at], l[(at+1+at%299)%300] = -mostTime, -1
		checkTime(t, l, 0, api.ErrOver)
	}
}

// TestShareAtEdges is of P13.2: what the document names, told one by one; a tick is nobody's step.
func TestShareAtEdges(t *testing.T) {
	l := []int{0, 16, 32, 15, 31, mostInt, mostTime, -1, -15, -16, -mostTime, leastInt, 1, -1}
	for who, want := range map[int]int{0: 4, 15: 3, 1: 1, 2: 0, 14: 0, 16: 0, 17: 0, 31: 0, 32: 0, -1: 0, -15: 0, -16: 0, mostTime: 0, -mostTime: 0, mostInt: 0, leastInt: 0} {
		checkShare(t, l, who, want)
	}
	for _, who := range whos() {
		checkShare(t, nil, who, 0)
		checkShare(t, []int{}, who, 0)
		checkShare(t, []int{-1, -15, -16, -5, -mostTime, leastInt}, who, 0)
	}
	for who := range 16 {
		checkShare(t, []int{who}, who, 1)
		checkShare(t, []int{who + 16, who, -who, who + 1<<40}, who, 3+max(0, 1-who))
		checkShare(t, []int{(who + 1) % 16, -who - 1}, who, 0)
	}
}

// TestRows is of P13.1 and P13.2: the picks, the time and the shares of rows of none, one and many, and of all of up to three out of a few.
func TestRows(t *testing.T) {
	for _, l := range append(rows(), short()...) {
		checkRow(t, l)
	}
}

// TestEachIsSomebodys is of P13.2: each number is a tick, or a step of just one of 0 to 15.
func TestEachIsSomebodys(t *testing.T) {
	for _, l := range rows() {
		n := 0
		for who := range 16 {
			n += script.Share(l, who)
		}
		for _, p := range script.All(l) {
			if p.Kind == api.PTick {
				n++
			}
		}
		if n != len(l) {
			t.Errorf("%.20v: %d of %d", l, n, len(l))
		}
	}
}

// TestMany is of P13.1, P13.2 and P1: there is no bound on how many numbers there are.
func TestMany(t *testing.T) {
	const many = 300000
	l := make([]int, many)
	for i := range l {
		l[i] = i%3 - 1
	}
	all := script.All(l)
	if len(all) != many || all[0] != tick(1) || all[many-2] != step(0) || all[many-1] != step(1) {
		t.Error(len(all))
	}
	checkTime(t, l, many/3, api.OK)
	checkShare(t, l, 1, many/3)
	l[many-1] = -mostTime + many/3
	checkTime(t, l, mostTime, api.OK)
	l[many-1]--
	checkTime(t, l, 0, api.ErrOver)
}

// checkBoth holds that two rows, one behind the other, have what both have.
func checkBoth(t *testing.T, l, m []int) {
	t.Helper()
	both := slices.Concat(l, m)
	checkAll(t, both, slices.Concat(script.All(l), script.All(m)))
	first, e := script.Time(l)
	second, f := script.Time(m)
	switch {
	case e != api.OK || f != api.OK || first > mostTime-second:
		checkTime(t, both, 0, api.ErrOver)
	default:
		checkTime(t, both, first+second, api.OK)
	}
	for _, who := range whos() {
		checkShare(t, both, who, script.Share(l, who)+script.Share(m, who))
	}
}

// TestTwoScripts is of P13.3: two scripts, one behind the other, be it the same again, or one that is too much.
func TestTwoScripts(t *testing.T) {
	few := short()
	for i, l := range few {
		for k := i % 7; k < len(few); k += 7 {
			checkBoth(t, l, few[k])
		}
	}
	for _, l := range rows() {
		checkBoth(t, l, l[:len(l)/2])
		checkBoth(t, l[:len(l)/3], l[len(l)/3:])
		checkBoth(t, nil, l)
		checkBoth(t, l, []int{-mostTime, 3})
		checkBoth(t, []int{leastInt, -1}, l)
	}
}

// TestUnchanged is of rule R4: no call changes the list that it was handed, nor what lies behind its end, which is not asked either.
func TestUnchanged(t *testing.T) {
	behind := []int{-mostTime, 3, -mostTime, 15, leastInt, 0}
	for _, l := range append(rows(), short()...) {
		room := slices.Concat(l, behind)
		was := slices.Clone(room)
		checkRow(t, room[:len(l)])
		if !slices.Equal(room, was) {
			t.Errorf("%.20v became %.20v", was, room)
		}
	}
}

// TestAgain is of rule R1: an answer is the same when it is asked again, whatever became of the first one.
func TestAgain(t *testing.T) {
	for _, l := range rows() {
		first := script.All(l)
		second := script.All(l)
		first = first[:cap(first)]
		for i := range first {
			first[i] = api.Pick{Kind: -7, N: -7}
		}
		if !slices.Equal(second, readAll(l)) {
			t.Errorf("%.20v: %.20v", l, second)
		}
		checkRow(t, l)
	}
}
