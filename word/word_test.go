package word_test

import (
	"math"
	"math/big"
	"strings"
	"testing"

	"deadbolt/api"
	"deadbolt/word"
)

const (
	least32  = -1 << 31
	most32   = 1<<31 - 1
	mostU32  = 1<<32 - 1
	power32  = 1 << 32
	leastInt = math.MinInt
	mostInt  = math.MaxInt
)

// kind is what the chapter says of one, written down again: its bits, and its least and greatest word.
type kind struct {
	number, bits, least, most int
}

func kinds() []kind {
	return []kind{
		{api.W32, 32, least32, most32},
		{api.WU32, 32, 0, mostU32},
		{api.W64, 64, leastInt, mostInt},
	}
}

func wrongKinds() []int {
	return []int{-1, 3, 4, 32, 64, -2, power32, power32 + 1, leastInt, mostInt}
}

// numbers are each kind's edges and what lies around them, powers of 2 and their neighbours on both sides of 0, and some of no shape at all.
func numbers() []int {
	l := []int{0, 1234567890123456789, -1234567890123456789, 0x5555555555555555, -0x5555555555555556, 0x123456789ABCDEF}
	for n := range 64 {
		p := 1 << n
		l = append(l, p-1, p, p+1, -p-1, -p, -p+1)
	}
	return l
}

func few() []int {
	return []int{0, 1, -1, 77, -77, least32 - 1, least32, least32 + 1, most32 - 1, most32, most32 + 1, mostU32 - 1, mostU32, power32, power32 + 1, -power32, -power32 - 1, leastInt, leastInt + 1, mostInt - 1, mostInt, 0x123456789ABCDEF}
}

// asWord works out a number as a word without bounds: it is moved by the power of the kind's bits till it is one.
func asWord(k kind, v *big.Int) int {
	power := new(big.Int).Lsh(big.NewInt(1), uint(k.bits))
	least := big.NewInt(int64(k.least))
	r := new(big.Int).Sub(v, least)
	r.Mod(r, power)
	return int(r.Add(r, least).Int64())
}

func sum(l ...int) *big.Int {
	all := new(big.Int)
	for _, v := range l {
		all.Add(all, big.NewInt(int64(v)))
	}
	return all
}

// TestFitsAtEdges is of P1.1: Fits, at each kind's least and greatest word and one beyond them.
func TestFitsAtEdges(t *testing.T) {
	for i, x := range []struct {
		kind, v int
		want    bool
	}{
		{api.W32, least32, true}, {api.W32, least32 - 1, false}, {api.W32, most32, true}, {api.W32, most32 + 1, false},
		{api.W32, 0, true}, {api.W32, -1, true}, {api.W32, mostU32, false}, {api.W32, leastInt, false}, {api.W32, mostInt, false},
		{api.WU32, 0, true}, {api.WU32, -1, false}, {api.WU32, mostU32, true}, {api.WU32, power32, false},
		{api.WU32, most32 + 1, true}, {api.WU32, least32, false}, {api.WU32, leastInt, false}, {api.WU32, mostInt, false},
		{api.W64, 0, true}, {api.W64, -1, true}, {api.W64, leastInt, true}, {api.W64, mostInt, true}, {api.W64, power32, true},
	} {
		if got := word.Fits(x.kind, x.v); got != x.want {
			t.Errorf("%d: Fits(%d, %d) = %v", i, x.kind, x.v, got)
		}
	}
}

// TestFitsBetweenLeastAndMost is of P1.1: Fits, held against the bounds that the chapter names.
func TestFitsBetweenLeastAndMost(t *testing.T) {
	for _, k := range kinds() {
		for _, v := range numbers() {
			if got, want := word.Fits(k.number, v), k.least <= v && v <= k.most; got != want {
				t.Errorf("Fits(%d, %d) = %v", k.number, v, got)
			}
		}
	}
}

// TestWrapAtEdges is of P1.1: Wrap, at the edges and far beyond them.
func TestWrapAtEdges(t *testing.T) {
	for i, x := range []struct{ kind, v, want int }{
		{api.W32, 5, 5}, {api.W32, -5, -5}, {api.W32, least32, least32}, {api.W32, most32, most32},
		{api.W32, most32 + 1, least32}, {api.W32, least32 - 1, most32}, {api.W32, mostU32, -1}, {api.W32, power32, 0},
		{api.W32, mostInt, -1}, {api.W32, leastInt, 0},
		{api.WU32, 5, 5}, {api.WU32, 0, 0}, {api.WU32, mostU32, mostU32}, {api.WU32, -1, mostU32}, {api.WU32, power32, 0},
		{api.WU32, power32 + 7, 7}, {api.WU32, least32, most32 + 1}, {api.WU32, mostInt, mostU32}, {api.WU32, leastInt, 0},
		{api.W64, 5, 5}, {api.W64, -1, -1}, {api.W64, power32, power32}, {api.W64, mostInt, mostInt}, {api.W64, leastInt, leastInt},
	} {
		if got, e := word.Wrap(x.kind, x.v); got != x.want || e != api.OK {
			t.Errorf("%d: Wrap(%d, %d) = %d, %d", i, x.kind, x.v, got, e)
		}
	}
}

// TestWrapIsOffByPowers is of P1.1: Wrap, held against the word worked out without bounds.
func TestWrapIsOffByPowers(t *testing.T) {
	for _, k := range kinds() {
		for _, v := range numbers() {
			if got, e := word.Wrap(k.number, v); got != asWord(k, sum(v)) || e != api.OK {
				t.Errorf("Wrap(%d, %d) = %d, %d", k.number, v, got, e)
			}
		}
	}
}

// TestAddGoesRound is of P1.1: Add, where sums go round, those of Go's own int too.
func TestAddGoesRound(t *testing.T) {
	for i, x := range []struct{ kind, a, b, want int }{
		{api.W32, 2, 3, 5}, {api.W32, most32, 1, least32}, {api.W32, least32, -1, most32}, {api.W32, least32, least32, 0},
		{api.W32, most32, most32, -2}, {api.W32, mostInt, mostInt, -2}, {api.W32, mostInt, 1, 0}, {api.W32, leastInt, -1, -1},
		{api.WU32, 2, 3, 5}, {api.WU32, mostU32, 1, 0}, {api.WU32, 0, -1, mostU32}, {api.WU32, mostU32, mostU32, mostU32 - 1},
		{api.WU32, mostInt, mostInt, mostU32 - 1}, {api.WU32, leastInt, -1, mostU32},
		{api.W64, 2, -3, -1}, {api.W64, mostInt, 1, leastInt}, {api.W64, leastInt, -1, mostInt}, {api.W64, mostInt, mostInt, -2},
		{api.W64, leastInt, leastInt, 0},
	} {
		if got, e := word.Add(x.kind, x.a, x.b); got != x.want || e != api.OK {
			t.Errorf("%d: Add(%d, %d, %d) = %d, %d", i, x.kind, x.a, x.b, got, e)
		}
	}
}

// TestAddAsIfWithoutBounds is of P1.1: Add, held against the sum worked out without bounds.
func TestAddAsIfWithoutBounds(t *testing.T) {
	for _, k := range kinds() {
		for _, a := range numbers() {
			for _, b := range few() {
				if got, e := word.Add(k.number, a, b); got != asWord(k, sum(a, b)) || e != api.OK {
					t.Errorf("Add(%d, %d, %d) = %d, %d", k.number, a, b, got, e)
				}
			}
		}
	}
}

// TestBitsOfSome is of P1.2: Bits, at the edges, and that the highest digit comes first.
func TestBitsOfSome(t *testing.T) {
	for i, x := range []struct {
		kind, v int
		want    string
	}{
		{api.W32, 0, strings.Repeat("0", 32)}, {api.W32, -1, strings.Repeat("1", 32)}, {api.W32, 1, strings.Repeat("0", 31) + "1"},
		{api.W32, least32, "1" + strings.Repeat("0", 31)}, {api.W32, most32, "0" + strings.Repeat("1", 31)},
		{api.W32, -2, strings.Repeat("1", 31) + "0"}, {api.W32, 0x12345678, "00010010001101000101011001111000"},
		{api.WU32, 0, strings.Repeat("0", 32)}, {api.WU32, mostU32, strings.Repeat("1", 32)}, {api.WU32, 5, strings.Repeat("0", 29) + "101"},
		{api.WU32, 1 << 31, "1" + strings.Repeat("0", 31)}, {api.WU32, 0xF0000002, "1111" + strings.Repeat("0", 26) + "10"},
		{api.W64, 0, strings.Repeat("0", 64)}, {api.W64, -1, strings.Repeat("1", 64)}, {api.W64, 6, strings.Repeat("0", 61) + "110"},
		{api.W64, leastInt, "1" + strings.Repeat("0", 63)}, {api.W64, mostInt, "0" + strings.Repeat("1", 63)},
		{api.W64, power32, strings.Repeat("0", 31) + "1" + strings.Repeat("0", 32)},
	} {
		if got, e := word.Bits(x.kind, x.v); got != x.want || e != api.OK {
			t.Errorf("%d: Bits(%d, %d) = %q, %d", i, x.kind, x.v, got, e)
		}
	}
}

// TestBitsOfAll is of P1.2: it reads the digits back as a number without a sign, which as a word must be the one they came from.
func TestBitsOfAll(t *testing.T) {
	for _, k := range kinds() {
		for _, n := range numbers() {
			v := asWord(k, sum(n))
			got, e := word.Bits(k.number, v)
			read, ok := new(big.Int).SetString(got, 2)
			if e != api.OK || len(got) != k.bits || strings.Trim(got, "01") != "" || !ok || asWord(k, read) != v {
				t.Errorf("Bits(%d, %d) = %q, %d", k.number, v, got, e)
			}
		}
	}
}

// TestBitsOfNoWord is of P1.2: Bits, of a number that is no word of its kind.
func TestBitsOfNoWord(t *testing.T) {
	for _, k := range kinds() {
		for _, v := range numbers() {
			if k.least <= v && v <= k.most {
				continue
			}
			if got, e := word.Bits(k.number, v); got != "" || e != api.ErrArg {
				t.Errorf("Bits(%d, %d) = %q, %d", k.number, v, got, e)
			}
		}
	}
}

// TestNoSuchKind is of P1.1, P1.2 and P1: a kind that there is not is an error, whatever else is handed, and nothing beside it.
func TestNoSuchKind(t *testing.T) {
	for _, k := range wrongKinds() {
		for _, v := range few() {
			if word.Fits(k, v) {
				t.Errorf("Fits(%d, %d)", k, v)
			}
			if got, e := word.Wrap(k, v); got != 0 || e != api.ErrArg {
				t.Errorf("Wrap(%d, %d) = %d, %d", k, v, got, e)
			}
			if got, e := word.Add(k, v, 1); got != 0 || e != api.ErrArg {
				t.Errorf("Add(%d, %d, 1) = %d, %d", k, v, got, e)
			}
			if got, e := word.Bits(k, v); got != "" || e != api.ErrArg {
				t.Errorf("Bits(%d, %d) = %q, %d", k, v, got, e)
			}
		}
	}
}

func mustWrap(t *testing.T, kind, v int) int {
	t.Helper()
	got, e := word.Wrap(kind, v)
	if e != api.OK {
		t.Fatalf("Wrap(%d, %d): %d", kind, v, e)
	}
	return got
}

func mustAdd(t *testing.T, kind, a, b int) int {
	t.Helper()
	got, e := word.Add(kind, a, b)
	if e != api.OK {
		t.Fatalf("Add(%d, %d, %d): %d", kind, a, b, e)
	}
	return got
}

// TestWrappedFitsAndStays is of P1.3: what is wrapped fits, and is as it was, wrapped again.
func TestWrappedFitsAndStays(t *testing.T) {
	for _, k := range kinds() {
		for _, v := range numbers() {
			w := mustWrap(t, k.number, v)
			if !word.Fits(k.number, w) {
				t.Errorf("kind %d: %d, wrapped, is %d, and does not fit", k.number, v, w)
			}
			if again := mustWrap(t, k.number, w); again != w {
				t.Errorf("kind %d: %d, wrapped again, is %d", k.number, w, again)
			}
			if word.Fits(k.number, v) && w != v {
				t.Errorf("kind %d: %d fits, and is wrapped to %d", k.number, v, w)
			}
		}
	}
}

// TestAddedInAnyOrder is of P1.3: sums hang neither on order, nor on which are added first.
func TestAddedInAnyOrder(t *testing.T) {
	for _, k := range kinds() {
		for _, a := range few() {
			for _, b := range few() {
				ab := mustAdd(t, k.number, a, b)
				if !word.Fits(k.number, ab) {
					t.Errorf("kind %d: %d and %d make %d, which does not fit", k.number, a, b, ab)
				}
				if ba := mustAdd(t, k.number, b, a); ba != ab {
					t.Errorf("kind %d: %d and %d make %d, the other way round %d", k.number, a, b, ab, ba)
				}
				for _, c := range few() {
					left, right := mustAdd(t, k.number, ab, c), mustAdd(t, k.number, a, mustAdd(t, k.number, b, c))
					if want := asWord(k, sum(a, b, c)); left != want || right != want {
						t.Errorf("kind %d: %d, %d, %d make %d or %d, not %d", k.number, a, b, c, left, right, want)
					}
				}
			}
		}
	}
}

// TestWrappedAheadOfAdding is of P1.3: it makes no difference whether words are wrapped ahead of adding.
func TestWrappedAheadOfAdding(t *testing.T) {
	for _, k := range kinds() {
		for _, a := range numbers() {
			wrapped := mustWrap(t, k.number, a)
			for _, b := range few() {
				want := mustAdd(t, k.number, a, b)
				one := mustAdd(t, k.number, wrapped, b)
				both := mustAdd(t, k.number, wrapped, mustWrap(t, k.number, b))
				if one != want || both != want {
					t.Errorf("kind %d: %d and %d make %d; wrapped ahead of it %d and %d", k.number, a, b, want, one, both)
				}
			}
		}
	}
}
