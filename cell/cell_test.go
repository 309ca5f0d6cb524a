package cell_test

import (
	"math"
	"slices"
	"testing"

	"deadbolt/api"
	"deadbolt/cell"
)

const (
	least32  = -1 << 31
	most32   = 1<<31 - 1
	mostU32  = 1<<32 - 1
	power32  = 1 << 32
	leastInt = math.MinInt
	mostInt  = math.MaxInt
)

// wrapped works out a number as a word by division alone, as the chapter of words says it.
func wrapped(kind, v int) int {
	if kind == api.W64 {
		return v
	}
	r := v % power32
	if r < 0 {
		r += power32
	}
	if kind == api.W32 && r > most32 {
		r -= power32
	}
	return r
}

func numbers() []int {
	return []int{0, 1, -1, 5, -5, 77, least32 - 1, least32, least32 + 1, most32 - 1, most32, most32 + 1, mostU32 - 1, mostU32, power32, power32 + 1, -power32, -power32 - 1, 1 << 40, leastInt, leastInt + 1, mostInt - 1, mostInt}
}

// edges is a memory of each kind's least and greatest word and of some between them.
func edges() []api.Cell {
	return []api.Cell{
		{Kind: api.W32, V: least32}, {Kind: api.W32, V: most32}, {Kind: api.W32, V: -1}, {Kind: api.W32, V: 0},
		{Kind: api.WU32, V: 0}, {Kind: api.WU32, V: mostU32}, {Kind: api.WU32, V: 7},
		{Kind: api.W64, V: leastInt}, {Kind: api.W64, V: mostInt}, {Kind: api.W64, V: 1 << 40}, {Kind: api.W64, V: 0},
	}
}

// full is a memory of as many cells as may be, all different from their neighbours.
func full() []api.Cell {
	m := make([]api.Cell, api.MaxCells)
	for i := range m {
		m[i] = api.Cell{Kind: i % 3, V: 1000 + i}
	}
	return m
}

func right() [][]api.Cell {
	return [][]api.Cell{{{Kind: api.W32, V: 3}}, edges(), full()}
}

// wrong are memories that may not be: too many cells, kinds that there are not, and words that are none of their kind, first, last and between.
func wrong() [][]api.Cell {
	l := [][]api.Cell{make([]api.Cell, 65), make([]api.Cell, 1000), append(full(), api.Cell{})}
	for _, c := range []api.Cell{
		{Kind: -1}, {Kind: 3}, {Kind: leastInt}, {Kind: mostInt}, {Kind: power32},
		{Kind: api.W32, V: most32 + 1}, {Kind: api.W32, V: least32 - 1}, {Kind: api.W32, V: leastInt}, {Kind: api.W32, V: mostU32},
		{Kind: api.WU32, V: -1}, {Kind: api.WU32, V: power32}, {Kind: api.WU32, V: mostInt},
	} {
		first, last, between := full(), full(), edges()
		first[0], last[len(last)-1], between[4] = c, c, c
		l = append(l, []api.Cell{c}, first, last, between)
	}
	return l
}

// answer is what any of the accesses answers, those that change the memory and the one that does not.
type answer struct {
	after []api.Cell
	told  int
	is    bool
	e     api.Errno
}

// accesses are all of them, with numbers that would be right where there is a cell.
func accesses() map[string]func(m []api.Cell, at, v int) answer {
	return map[string]func(m []api.Cell, at, v int) answer{
		"Load": func(m []api.Cell, at, v int) (a answer) {
			a.told, a.e = cell.Load(m, at)
			return a
		},
		"Store": func(m []api.Cell, at, v int) (a answer) {
			a.after, a.e = cell.Store(m, at, v)
			return a
		},
		"Add": func(m []api.Cell, at, v int) (a answer) {
			a.after, a.told, a.e = cell.Add(m, at, v)
			return a
		},
		"Swap": func(m []api.Cell, at, v int) (a answer) {
			a.after, a.told, a.e = cell.Swap(m, at, v)
			return a
		},
		"Cas": func(m []api.Cell, at, v int) (a answer) {
			a.after, a.is, a.e = cell.Cas(m, at, v, v+1)
			return a
		},
	}
}

// with is the memory with a word in a cell.
func with(m []api.Cell, at, v int) []api.Cell {
	after := slices.Clone(m)
	after[at].V = v
	return after
}

// TestRight is of P2.1: memories of none, some and 64 cells may be, with any word of its kind in them.
func TestRight(t *testing.T) {
	for i, m := range append(right(), nil, []api.Cell{}, make([]api.Cell, 64), make([]api.Cell, 63)) {
		if !cell.Right(m) {
			t.Errorf("%d: %v may be", i, m)
		}
	}
	for i, m := range wrong() {
		if cell.Right(m) {
			t.Errorf("%d: %v may not be", i, m)
		}
	}
}

// TestWrongMemory is of P2.1 and P1: a memory that may not be comes ahead of a place where there is no cell, and nothing is told beside an error.
func TestWrongMemory(t *testing.T) {
	for name, call := range accesses() {
		for i, m := range wrong() {
			for _, at := range []int{0, 1, -1, 63, 64, 65, len(m) - 1, len(m), leastInt, mostInt} {
				if a := call(m, at, 1); a.e != api.ErrArg || len(a.after) != 0 || a.told != 0 || a.is {
					t.Errorf("%s of wrong memory %d at %d: %v", name, i, at, a)
				}
			}
		}
	}
}

// TestNoCell is of P2.1 and P1: there is none below 0, none behind the last one, and none at all in a memory of 0 cells.
func TestNoCell(t *testing.T) {
	for name, call := range accesses() {
		for i, m := range append(right(), nil, []api.Cell{}) {
			for _, at := range []int{-1, -2, len(m), len(m) + 1, leastInt, mostInt, power32} {
				if a := call(m, at, 1); a.e != api.ErrRange || len(a.after) != 0 || a.told != 0 || a.is {
					t.Errorf("%s of memory %d at %d: %v", name, i, at, a)
				}
			}
		}
	}
}

// TestLoad is of P2.1: each cell's own word, the first and the last one too.
func TestLoad(t *testing.T) {
	for i, m := range right() {
		for at, c := range m {
			if v, e := cell.Load(m, at); v != c.V || e != api.OK {
				t.Errorf("memory %d: Load(%d) = %d, %d", i, at, v, e)
			}
		}
	}
}

// TestStoreAtEdges is of P2.1: stores that go round, and those that just do not.
func TestStoreAtEdges(t *testing.T) {
	for i, x := range []struct{ kind, v, want int }{
		{api.W32, 5, 5}, {api.W32, most32, most32}, {api.W32, least32, least32}, {api.W32, most32 + 1, least32}, {api.W32, least32 - 1, most32},
		{api.W32, mostU32, -1}, {api.W32, mostInt, -1}, {api.W32, leastInt, 0},
		{api.WU32, 5, 5}, {api.WU32, mostU32, mostU32}, {api.WU32, -1, mostU32}, {api.WU32, power32, 0}, {api.WU32, mostInt, mostU32}, {api.WU32, leastInt, 0},
		{api.W64, -1, -1}, {api.W64, power32, power32}, {api.W64, mostInt, mostInt}, {api.W64, leastInt, leastInt},
	} {
		m, e := cell.Store([]api.Cell{{Kind: x.kind, V: 3}}, 0, x.v)
		if e != api.OK || !slices.Equal(m, []api.Cell{{Kind: x.kind, V: x.want}}) {
			t.Errorf("%d: Store of %d, kind %d: %v, %d", i, x.v, x.kind, m, e)
		}
	}
}

// TestStoreAndSwap is of P2.1 and P2.2: both leave the same memory, and Swap tells what was there.
func TestStoreAndSwap(t *testing.T) {
	for i, m := range right() {
		for at, c := range m {
			for _, v := range numbers() {
				want := with(m, at, wrapped(c.Kind, v))
				if got, e := cell.Store(m, at, v); e != api.OK || !slices.Equal(got, want) {
					t.Errorf("memory %d: Store(%d, %d): %v, %d", i, at, v, got, e)
				}
				if got, was, e := cell.Swap(m, at, v); e != api.OK || was != c.V || !slices.Equal(got, want) {
					t.Errorf("memory %d: Swap(%d, %d): %v, %d, %d", i, at, v, got, was, e)
				}
			}
		}
	}
}

// TestAddGoesRound is of P2.2: sums at each kind's least and greatest word.
func TestAddGoesRound(t *testing.T) {
	for i, x := range []struct{ kind, v, d, want int }{
		{api.W32, 2, 3, 5}, {api.W32, most32, 1, least32}, {api.W32, least32, -1, most32}, {api.W32, most32, mostInt, most32 - 1}, {api.W32, -1, leastInt, -1},
		{api.WU32, 2, 3, 5}, {api.WU32, mostU32, 1, 0}, {api.WU32, 0, -1, mostU32}, {api.WU32, mostU32, mostU32, mostU32 - 1}, {api.WU32, 1, mostInt, 0},
		{api.W64, 2, -3, -1}, {api.W64, mostInt, 1, leastInt}, {api.W64, leastInt, -1, mostInt}, {api.W64, leastInt, leastInt, 0},
	} {
		m, sum, e := cell.Add([]api.Cell{{Kind: x.kind, V: x.v}}, 0, x.d)
		if e != api.OK || sum != x.want || !slices.Equal(m, []api.Cell{{Kind: x.kind, V: x.want}}) {
			t.Errorf("%d: Add of %d to %d, kind %d: %v, %d, %d", i, x.d, x.v, x.kind, m, sum, e)
		}
	}
}

// TestAdd is of P2.2: the word and what is added, wrapped, is left, and told.
func TestAdd(t *testing.T) {
	for i, m := range right() {
		for at, c := range m {
			for _, d := range numbers() {
				want := wrapped(c.Kind, c.V+wrapped(c.Kind, d))
				got, sum, e := cell.Add(m, at, d)
				if e != api.OK || sum != want || !slices.Equal(got, with(m, at, want)) {
					t.Errorf("memory %d: Add(%d, %d): %v, %d, %d", i, at, d, got, sum, e)
				}
			}
		}
	}
}

// TestCasAtEdges is of P2.2: what is old counts as a word of the cell's kind, and so does what is left.
func TestCasAtEdges(t *testing.T) {
	for i, x := range []struct {
		kind, was, old, v, want int
		is                      bool
	}{
		{api.W32, -1, mostU32, 5, 5, true}, {api.W32, -1, -1, most32 + 1, least32, true}, {api.W32, -1, 1, 5, -1, false},
		{api.W32, least32, most32 + 1, mostU32, -1, true}, {api.W32, most32, least32 - 1, 0, 0, true}, {api.W32, 0, power32, 9, 9, true},
		{api.WU32, mostU32, -1, -2, mostU32 - 1, true}, {api.WU32, 0, power32, power32, 0, true}, {api.WU32, 0, -1, 5, 0, false},
		{api.W64, -1, mostU32, 5, -1, false}, {api.W64, 0, power32, 5, 0, false}, {api.W64, leastInt, leastInt, mostInt, mostInt, true}, {api.W64, mostInt, leastInt, 0, mostInt, false},
	} {
		m, is, e := cell.Cas([]api.Cell{{Kind: x.kind, V: x.was}}, 0, x.old, x.v)
		if e != api.OK || is != x.is || !slices.Equal(m, []api.Cell{{Kind: x.kind, V: x.want}}) {
			t.Errorf("%d: Cas of %d by %d at %d, kind %d: %v, %v, %d", i, x.old, x.v, x.was, x.kind, m, is, e)
		}
	}
}

// TestCas is of P2.2: it stores and says so just where the word is the old one.
func TestCas(t *testing.T) {
	for i, m := range right() {
		for at, c := range m {
			for _, old := range append(numbers(), c.V) {
				for _, v := range []int{c.V + 1, -1, 0, power32 + 5, leastInt} {
					want, is := slices.Clone(m), wrapped(c.Kind, old) == c.V
					if is {
						want = with(m, at, wrapped(c.Kind, v))
					}
					if got, was, e := cell.Cas(m, at, old, v); e != api.OK || was != is || !slices.Equal(got, want) {
						t.Errorf("memory %d: Cas(%d, %d, %d): %v, %v, %d", i, at, old, v, got, was, e)
					}
				}
			}
		}
	}
}

// TestHandedMemoryStays is of R4 for all accesses: the memory that is handed in is not changed, nor is it by a change to the answer.
func TestHandedMemoryStays(t *testing.T) {
	for name, call := range accesses() {
		for i, m := range append(right(), wrong()...) {
			before := slices.Clone(m)
			for _, at := range []int{-1, 0, len(m) - 1, len(m)} {
				for _, v := range []int{1, m[0].V, m[len(m)-1].V} {
					a := call(m, at, v)
					for k := range a.after {
						a.after[k] = api.Cell{Kind: -7, V: -7}
					}
					if !slices.Equal(m, before) {
						t.Fatalf("%s of memory %d at %d changed it", name, i, at)
					}
				}
			}
		}
	}
}

// TestAccessChangesItsCellAlone is of P2.3: all other cells stay, the kind of its own too, and the memory still may be.
func TestAccessChangesItsCellAlone(t *testing.T) {
	for name, call := range accesses() {
		if name == "Load" {
			continue // it leaves no memory
		}
		for i, m := range right() {
			for at := range m {
				for _, v := range append(numbers(), m[at].V) {
					a := call(m, at, v)
					if a.e != api.OK || !cell.Right(a.after) || len(a.after) != len(m) {
						t.Fatalf("%s of memory %d at %d by %d: %v", name, i, at, v, a)
					}
					if !slices.Equal(with(a.after, at, m[at].V), m) {
						t.Errorf("%s of memory %d at %d by %d: %v", name, i, at, v, a.after)
					}
				}
			}
		}
	}
}

// TestSwappedBack is of P2.3: all is as it was.
func TestSwappedBack(t *testing.T) {
	for i, m := range right() {
		for at := range m {
			for _, v := range numbers() {
				there, was, e := cell.Swap(m, at, v)
				back, is, f := cell.Swap(there, at, was)
				if e != api.OK || f != api.OK || !slices.Equal(back, m) || is != there[at].V {
					t.Errorf("memory %d at %d: %d swapped in, and back: %v, %d", i, at, v, back, is)
				}
			}
		}
	}
}

// TestCasOfWhatIsLoaded is of P2.3: it stores.
func TestCasOfWhatIsLoaded(t *testing.T) {
	for i, m := range right() {
		for at := range m {
			for _, v := range numbers() {
				old, _ := cell.Load(m, at)
				want, _ := cell.Store(m, at, v)
				if got, is, e := cell.Cas(m, at, old, v); e != api.OK || !is || !slices.Equal(got, want) {
					t.Errorf("memory %d at %d: %v, %v, %d", i, at, got, is, e)
				}
			}
		}
	}
}

func addAll(t *testing.T, m []api.Cell, at int, l ...int) []api.Cell {
	t.Helper()
	for _, d := range l {
		var e api.Errno
		if m, _, e = cell.Add(m, at, d); e != api.OK {
			t.Fatalf("Add(%d, %d): %d", at, d, e)
		}
	}
	return m
}

// TestAddsAddUp is of P2.3: it makes no difference in which order they come, nor whether they come as one.
func TestAddsAddUp(t *testing.T) {
	m := edges()
	for at := range m {
		for _, a := range numbers() {
			for _, b := range numbers() {
				both := addAll(t, m, at, a, b)
				if other := addAll(t, m, at, b, a); !slices.Equal(both, other) {
					t.Errorf("at %d: %d and %d: %v, the other way round %v", at, a, b, both, other)
				}
				if one := addAll(t, m, at, a+b); !slices.Equal(both, one) {
					t.Errorf("at %d: %d and %d: %v, as one %v", at, a, b, both, one)
				}
			}
			if back := addAll(t, m, at, a, -a); !slices.Equal(back, m) {
				t.Errorf("at %d: %d, and taken off again: %v", at, a, back)
			}
		}
	}
}

// TestAddsToSeveralCells is of P2.3: those to other cells may come between.
func TestAddsToSeveralCells(t *testing.T) {
	m := full()
	one := addAll(t, addAll(t, addAll(t, m, 0, 5), 63, -7), 0, power32-1)
	other := addAll(t, addAll(t, m, 63, -7), 0, power32-1, 5)
	if !slices.Equal(one, other) || one[0].V != wrapped(m[0].Kind, m[0].V+power32+4) || one[63].V != m[63].V-7 {
		t.Errorf("%v, %v", one, other)
	}
}
