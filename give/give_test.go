package give_test

import (
	"math"
	"slices"
	"testing"

	"deadbolt/api"
	"deadbolt/flags"
	"deadbolt/give"
)

const (
	mostWaiters = 1<<28 - 1
	mostWord    = 1<<31 - 1
	leastInt    = math.MinInt
	mostInt     = math.MaxInt
)

// word is the one of a text.
func word(text string) int {
	w, e := flags.Parse(text)
	if e != api.OK {
		panic("no word: " + text)
	}
	return w
}

// says works out by division what a word says.
func says(word int) api.Flags {
	return api.Flags{Locked: word%2 == 1, Woken: word/2%2 == 1, Starving: word/4%2 == 1, Waiters: word / 8}
}

// edges is each set of bits with none, one, two, and as many who wait as may be, or one less.
func edges() []int {
	var l []int
	for bits := range 8 {
		for _, waiters := range []int{0, 1, 2, mostWaiters - 1, mostWaiters} {
			l = append(l, bits+8*waiters)
		}
	}
	return l
}

// words is those at the edges, many of the first and of the last ones, those around each power of 2, and some between.
func words() []int {
	l := append(edges(), 0x55555555, 0x2AAAAAAA, 1234567890)
	for w := range 1 << 12 {
		l = append(l, w, mostWord-w)
	}
	for n := 12; n < 31; n++ {
		for w := 1<<n - 17; w <= 1<<n+17; w++ {
			l = append(l, w)
		}
	}
	for w := 1 << 13; w <= mostWord; w += 99991 {
		l = append(l, w)
	}
	return l
}

// noWords are numbers that neither are a word nor -1: the first ones on either side, the last ones, and such as would be a word, were their high bits left out.
func noWords() []int {
	l := []int{-2, -3, -4, -5, -6, -7, -8, -9, -16, -29, -mostWord, -mostWord - 1, -mostWord - 2, mostWord + 1, mostWord + 2, mostInt - 1, mostInt, leastInt, leastInt + 1}
	for _, w := range edges() {
		for _, high := range []int{1 << 31, 1 << 32, 1 << 33, 1 << 62, -1 << 31, -1 << 32, -1 << 62, leastInt} {
			l = append(l, high|w)
		}
	}
	return slices.DeleteFunc(l, func(w int) bool { return w == -1 })
}

// TestApi is of P15.1 and P15.2: the bits and the bound are those that package api names.
func TestApi(t *testing.T) {
	if got := [5]int{api.Locked, api.Woken, api.Starving, api.One, api.MaxWaiters}; got != [5]int{1, 2, 4, 8, mostWaiters} {
		t.Error(got)
	}
}

// TestLeftAtEdges is of P15.1: -1, 0, and each set of bits with nobody who waits, some, and as many as may be.
func TestLeftAtEdges(t *testing.T) {
	if done, on, e := give.Left(-1); done || on || e != api.ErrFault {
		t.Errorf("Left(-1) = %v, %v, %d", done, on, e)
	}
	for text, x := range map[string]struct {
		done, on bool
		why      api.Errno
	}{
		"---0": {true, false, api.OK}, "---1": {false, false, api.OK}, "---2": {false, false, api.OK}, "---268435454": {false, false, api.OK}, "---268435455": {false, false, api.OK},
		"-W-0": {false, false, api.OK}, "-W-1": {false, false, api.OK}, "-W-2": {false, false, api.OK}, "-W-268435454": {false, false, api.OK}, "-W-268435455": {false, false, api.OK},
		"--S0": {false, true, api.OK}, "--S1": {false, true, api.OK}, "--S2": {false, true, api.OK}, "--S268435454": {false, true, api.OK}, "--S268435455": {false, true, api.OK},
		"-WS0": {false, true, api.OK}, "-WS1": {false, true, api.OK}, "-WS2": {false, true, api.OK}, "-WS268435454": {false, true, api.OK}, "-WS268435455": {false, true, api.OK},
		"L--0": {false, false, api.ErrFault}, "L--1": {false, false, api.ErrFault}, "L--2": {false, false, api.ErrFault}, "L--268435454": {false, false, api.ErrFault}, "L--268435455": {false, false, api.ErrFault},
		"LW-0": {false, false, api.ErrFault}, "LW-1": {false, false, api.ErrFault}, "LW-268435455": {false, false, api.ErrFault},
		"L-S0": {false, false, api.ErrFault}, "L-S1": {false, false, api.ErrFault}, "L-S268435455": {false, false, api.ErrFault},
		"LWS0": {false, false, api.ErrFault}, "LWS1": {false, false, api.ErrFault}, "LWS268435454": {false, false, api.ErrFault}, "LWS268435455": {false, false, api.ErrFault},
	} {
		if done, on, e := give.Left(word(text)); done != x.done || on != x.on || e != x.why {
			t.Errorf("Left(%s) = %v, %v, %d", text, done, on, e)
		}
	}
}

// TestLeft is of P15.1: of all words, those that are Locked alone are ErrFault; of the others, 0 alone is done, and those that are Starving alone are to be handed on.
func TestLeft(t *testing.T) {
	for _, w := range words() {
		f, why := says(w), api.OK
		if f.Locked {
			why = api.ErrFault
		}
		done, on, e := give.Left(w)
		if done != (w == 0) || on != (f.Starving && !f.Locked) || e != why {
			t.Errorf("Left(%d) = %v, %v, %d", w, done, on, e)
		}
		if done && on {
			t.Errorf("Left(%d): all is done, and it is to be handed on", w)
		}
	}
}

// TestLeftOfWhatWasFree is of P15.1: 1 is taken off words that are Locked, and off words that are not, 0 among them; the last ones alone are ErrFault.
func TestLeftOfWhatWasFree(t *testing.T) {
	for _, w := range words() {
		why := api.ErrFault
		if says(w).Locked {
			why = api.OK
		}
		if _, _, e := give.Left(w - 1); e != why {
			t.Errorf("%d is given back: %d", w, e)
		}
	}
}

// TestLeftOfNoWord is of P15.1 and P1: numbers that are no word, and not -1, and nothing told beside the error.
func TestLeftOfNoWord(t *testing.T) {
	for _, w := range noWords() {
		if done, on, e := give.Left(w); done || on || e != api.ErrArg {
			t.Errorf("Left(%d) = %v, %v, %d", w, done, on, e)
		}
	}
}

// TestWakesAtEdges is of P15.2: 0, and each set of bits with nobody who waits, some, and as many as may be.
func TestWakesAtEdges(t *testing.T) {
	for text, want := range map[string]string{
		"---0": "", "---1": "-W-0", "---2": "-W-1", "---3": "-W-2", "---268435454": "-W-268435453", "---268435455": "-W-268435454",
		"-W-0": "", "-W-1": "", "-W-2": "", "-W-268435454": "", "-W-268435455": "",
		"--S0": "", "--S1": "", "--S2": "", "--S268435454": "", "--S268435455": "",
		"-WS0": "", "-WS1": "", "-WS2": "", "-WS268435454": "", "-WS268435455": "",
		"L--0": "", "L--1": "", "L--2": "", "L--268435454": "", "L--268435455": "",
		"LW-0": "", "LW-1": "", "LW-2": "", "LW-268435454": "", "LW-268435455": "",
		"L-S0": "", "L-S1": "", "L-S2": "", "L-S268435454": "", "L-S268435455": "",
		"LWS0": "", "LWS1": "", "LWS2": "", "LWS268435454": "", "LWS268435455": "",
	} {
		wanted := 0
		if want != "" {
			wanted = word(want)
		}
		if is, w, e := give.Wakes(word(text)); is != (want != "") || w != wanted || e != api.OK {
			t.Errorf("Wakes(%s) = %v, %d, %d, not %q", text, is, w, e, want)
		}
	}
}

// TestWakes is of P15.2: of all words, somebody is woken by those alone that say that somebody waits, and nothing else; one less waits then, and the word is Woken, and else as it was.
func TestWakes(t *testing.T) {
	for _, w := range words() {
		f := says(w)
		wakes, want := f == api.Flags{Waiters: f.Waiters} && f.Waiters != 0, 0
		if wakes {
			want = 8*(f.Waiters-1) + 2
		}
		is, then, e := give.Wakes(w)
		if is != wakes || then != want || e != api.OK {
			t.Errorf("Wakes(%d) = %v, %d, %d, not %v, %d", w, is, then, e, wakes, want)
		}
		if !is {
			continue
		}
		after, e := flags.Unpack(then)
		f.Waiters, f.Woken = f.Waiters-1, true
		if after != f || e != api.OK {
			t.Errorf("Wakes(%d) = %d: %v, %d, not %v", w, then, after, e, f)
		}
	}
}

// TestWakesOfNoWord is of P15.2 and P1: numbers that are no word, -1 among them, and nothing told beside the error.
func TestWakesOfNoWord(t *testing.T) {
	for _, w := range append(noWords(), -1) {
		if is, then, e := give.Wakes(w); is || then != 0 || e != api.ErrArg {
			t.Errorf("Wakes(%d) = %v, %d, %d", w, is, then, e)
		}
	}
}

// TestNobodyWakesTwo is of P15.3: by the word that who wakes leaves, nobody else is woken; nor is by that, when somebody locks the mutex and gives it back, all done, or the mutex to be handed on.
func TestNobodyWakesTwo(t *testing.T) {
	woken := 0
	for _, w := range words() {
		is, then, e := give.Wakes(w)
		if !is || e != api.OK {
			continue
		}
		woken++
		if f, e := flags.Unpack(then); !f.Woken || e != api.OK {
			t.Errorf("Wakes(%d) = %d, by which nobody is awake", w, then)
		}
		if again, more, e := give.Wakes(then); again || more != 0 || e != api.OK {
			t.Errorf("by %d, which who woke left of %d: %v, %d, %d", then, w, again, more, e)
		}
		if done, on, e := give.Left(then); done || on || e != api.OK {
			t.Errorf("Left(%d) = %v, %v, %d", then, done, on, e)
		}
	}
	if woken == 0 {
		t.Error("nobody was woken")
	}
}

// TestHandedOnIsNotWokenFor is of P15.3: by a word left that is to be handed on nobody is woken, nor by one of which all is done.
func TestHandedOnIsNotWokenFor(t *testing.T) {
	handed := 0
	for _, w := range words() {
		done, on, e := give.Left(w)
		if e != api.OK || !done && !on {
			continue
		}
		handed++
		if is, then, e := give.Wakes(w); is || then != 0 || e != api.OK {
			t.Errorf("Left(%d) = %v, %v, and Wakes of it %v, %d, %d", w, done, on, is, then, e)
		}
	}
	if handed < 2 {
		t.Error("none was handed on")
	}
}

// TestGivesBack is of P15.1 to P15.3: two wait; one is woken, and no other one till that one is no more awake; and when nobody waits any more, all is done.
func TestGivesBack(t *testing.T) {
	w := word("L--2") - 1
	for waiters := 1; waiters >= 0; waiters-- {
		if done, on, e := give.Left(w); done || on || e != api.OK {
			t.Fatalf("Left(%d) = %v, %v, %d", w, done, on, e)
		}
		is, then, e := give.Wakes(w)
		if want := 8*waiters + 2; !is || then != want || e != api.OK {
			t.Fatalf("Wakes(%d) = %v, %d, %d, not %d", w, is, then, e, want)
		}
		if is, _, e := give.Wakes(then); is || e != api.OK {
			t.Fatalf("Wakes(%d) = %v, %d", then, is, e)
		}
		w = then - 2 // who was woken locks it, and gives it back
	}
	if done, on, e := give.Left(w); !done || on || e != api.OK {
		t.Errorf("Left(%d) = %v, %v, %d", w, done, on, e)
	}
	if is, then, e := give.Wakes(w); is || then != 0 || e != api.OK {
		t.Errorf("Wakes(%d) = %v, %d, %d", w, is, then, e)
	}
	if _, _, e := give.Left(w - 1); e != api.ErrFault {
		t.Errorf("what is free is given back: %d", e)
	}
}

// TestEnds is of P1: no call panics, whatever it is handed; and what is told of a number is the same each time.
func TestEnds(t *testing.T) {
	var l []int
	for n := range 64 {
		for d := -9; d <= 9; d++ {
			l = append(l, 1<<n+d, -1<<n+d)
		}
	}
	for _, w := range slices.Concat(l, noWords(), []int{-1}, words()) {
		ends(t, w)
	}
}

// ends holds that both calls answer one of their errors, with nothing beside it, twice the same.
func ends(t *testing.T, w int) {
	t.Helper()
	done, on, e := give.Left(w)
	if !slices.Contains([]api.Errno{api.OK, api.ErrArg, api.ErrFault}, e) || e != api.OK && (done || on) {
		t.Errorf("Left(%d) = %v, %v, %d", w, done, on, e)
	}
	if d, o, f := give.Left(w); d != done || o != on || f != e {
		t.Errorf("Left(%d) = %v, %v, %d, and then %v, %v, %d", w, done, on, e, d, o, f)
	}
	is, then, e := give.Wakes(w)
	if e != api.OK && e != api.ErrArg || !is && then != 0 {
		t.Errorf("Wakes(%d) = %v, %d, %d", w, is, then, e)
	}
	if i, n, f := give.Wakes(w); i != is || n != then || f != e {
		t.Errorf("Wakes(%d) = %v, %d, %d, and then %v, %d, %d", w, is, then, e, i, n, f)
	}
	if right := w >= 0 && w <= mostWord; right != (e == api.OK) {
		t.Errorf("Wakes(%d): %d", w, e)
	}
}
