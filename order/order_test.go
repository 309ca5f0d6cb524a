package order_test

import (
	"cmp"
	"math"
	"math/big"
	"slices"
	"testing"

	"deadbolt/api"
	"deadbolt/order"
)

const (
	most     = math.MaxFloat64
	tiny     = math.SmallestNonzeroFloat64
	normal   = 0x1p-1022 // the smallest one above 0 that has all its digits
	leastInt = math.MinInt
	mostInt  = math.MaxInt
)

var (
	minus = math.Copysign(0, -1)
	inf   = math.Inf(1)
	nan   = math.NaN()
)

// lined are floats, of which each comes ahead of the later ones.
func lined() []float64 {
	return []float64{
		-inf, -most, math.Nextafter(-most, 0), -1e300, -0x1p53, -3, math.Nextafter(-1, -2), -1, math.Nextafter(-1, 0), -0.5, math.Nextafter(-normal, -1), -normal, math.Nextafter(-normal, 0), -2 * tiny, -tiny,
		minus, 0,
		tiny, 2 * tiny, math.Nextafter(normal, 0), normal, math.Nextafter(normal, 1), 0.5, math.Nextafter(1, 0), 1, math.Nextafter(1, 2), 3, 0x1p53, 1e300, math.Nextafter(most, 0), most, inf,
	}
}

// noNumbers have several bits: with a sign and without, quiet and not, with few digits and with all of them.
func noNumbers() []float64 {
	l := []float64{nan, -nan, math.Copysign(nan, -1), inf - inf}
	for _, bits := range []uint64{0x7FF0000000000001, 0x7FF8000000000000, 0x7FF8000000000001, 0x7FF7FFFFFFFFFFFF, 0x7FFFFFFFFFFFFFFF, 0xFFF0000000000001, 0xFFF8000000000000, 0xFFF7FFFFFFFFFFFF, 0xFFFFFFFFFFFFFFFF} {
		l = append(l, math.Float64frombits(bits))
	}
	return l
}

// edges are some of each class, and no two of them in order.
func edges() []float64 {
	return []float64{nan, 1, inf, -tiny, 0, -most, minus, most, -inf, tiny, -1}
}

// mixed are floats whose bits are all over the place.
func mixed(many int) []float64 {
	l := make([]float64, many)
	for i := range l {
		l[i] = math.Float64frombits(uint64(i+1) * 0x9E3779B97F4A7C15)
	}
	return l
}

// classOf tells a class by a float's bits alone.
func classOf(f float64) int {
	bits := math.Float64bits(f)
	signed, size := bits>>63 == 1, bits<<1>>1
	const endless = 0x7FF << 52
	switch {
	case size > endless:
		return api.CNaN
	case size == endless && signed:
		return api.CNegInf
	case size == endless:
		return api.CInf
	case size == 0 && signed:
		return api.CNegZero
	case size == 0:
		return api.CZero
	case signed:
		return api.CNeg
	}
	return api.CPos
}

// place is a whole number by which floats are in order, made of their bits: those with a sign are turned round, below the others.
func place(f float64) uint64 {
	bits := math.Float64bits(f)
	switch {
	case classOf(f) == api.CNaN:
		return math.MaxUint64
	case bits>>63 == 1:
		return ^bits
	}
	return bits | 1<<63
}

// same tells whether two are the same float, where all that are no numbers are.
func same(a, b float64) bool { return place(a) == place(b) }

func sameRows(a, b []float64) bool { return slices.EqualFunc(a, b, same) }

// bitsOf are those of a row, by which it is held against what it was.
func bitsOf(l []float64) []uint64 {
	all := make([]uint64, len(l))
	for i, f := range l {
		all[i] = math.Float64bits(f)
	}
	return all
}

// plus adds without bounds where both are finite, and rounds once.
func plus(a, b float64) float64 {
	switch {
	case classOf(a) == api.CNaN || classOf(b) == api.CNaN, same(a, inf) && same(b, -inf), same(a, -inf) && same(b, inf):
		return nan
	case math.IsInf(a, 0):
		return a
	case math.IsInf(b, 0):
		return b
	}
	wide := func(f float64) *big.Float { return new(big.Float).SetPrec(2200).SetFloat64(f) }
	sum, _ := new(big.Float).SetPrec(2200).Add(wide(a), wide(b)).Float64()
	return sum
}

// rows are all of so many floats out of some.
func rows(of []float64, many int) [][]float64 {
	all := [][]float64{nil}
	for range many {
		var longer [][]float64
		for _, l := range all {
			for _, f := range of {
				longer = append(longer, append(slices.Clone(l), f))
			}
		}
		all = longer
	}
	return all
}

// manyRows are all short ones of edges, rows of what is no number at each place, and long ones.
func manyRows() [][]float64 {
	var all [][]float64
	for many := 1; many <= 3; many++ {
		all = append(all, rows(edges(), many)...)
	}
	all = append(all, rows([]float64{0, minus, nan, -1}, 6)...)
	for _, no := range noNumbers() {
		for _, l := range [][]float64{{}, {0}, {minus, 0}, {inf, -inf}, {3, 1, 2, 0.5}, {-inf, 0, nan, 7}} {
			for at := range len(l) + 1 {
				all = append(all, slices.Insert(slices.Clone(l), at, no))
			}
		}
	}
	for _, many := range []int{19, 20, 21, 40, 41, 64, 1000} {
		all = append(all, mixed(many), slices.Repeat([]float64{0, nan, minus, 1}, many))
	}
	turned := append(lined(), noNumbers()...)
	slices.Reverse(turned)
	return append(all, lined(), noNumbers(), turned)
}

// TestApi is of P5.1: the classes are those that the chapter names.
func TestApi(t *testing.T) {
	for want, k := range []int{api.CNegInf, api.CNeg, api.CNegZero, api.CZero, api.CPos, api.CInf, api.CNaN} {
		if k != want {
			t.Error(k, want)
		}
	}
}

// TestClassAtEdges is of P5.1: both infinities, both zeros, and the least and the greatest finite floats of either sign, written out.
func TestClassAtEdges(t *testing.T) {
	half := 0.5 // no constant is minus 0
	for i, x := range []struct {
		f    float64
		want int
	}{
		{-inf, 0}, {-most, 1}, {-1, 1}, {-normal, 1}, {-tiny, 1}, {minus, 2}, {0, 3}, {tiny, 4}, {normal, 4}, {1, 4}, {most, 4}, {inf, 5}, {nan, 6},
		{-1 / inf, 2}, {1 / inf, 3}, {-tiny * half, 2}, {tiny * half, 3}, {most / half, 5}, {-most / half, 0}, {most * half / half, 4},
	} {
		if k := order.Class(x.f); k != x.want {
			t.Errorf("%d: Class(%v) = %d, not %d", i, x.f, k, x.want)
		}
	}
}

// TestClass is of P5.1: many floats, with their classes told by their bits.
func TestClass(t *testing.T) {
	for _, f := range slices.Concat(lined(), noNumbers(), mixed(5000)) {
		if k := order.Class(f); k != classOf(f) {
			t.Errorf("Class(%v, of bits %X) = %d, not %d", f, math.Float64bits(f), k, classOf(f))
		}
	}
}

// TestAheadInLine is of P5.1: each float comes ahead of the later ones alone, and ahead of what is no number.
func TestAheadInLine(t *testing.T) {
	l := lined()
	for i, a := range l {
		for k, b := range l {
			if order.Ahead(a, b) != (i < k) {
				t.Errorf("Ahead(%v, %v) is %v", a, b, i >= k)
			}
		}
		for _, no := range noNumbers() {
			if !order.Ahead(a, no) || order.Ahead(no, a) {
				t.Errorf("%v and what is no number, of bits %X", a, math.Float64bits(no))
			}
		}
	}
}

// TestAhead is of P5.1: many floats, held against each other by their bits.
func TestAhead(t *testing.T) {
	all := slices.Concat(lined(), noNumbers(), mixed(200))
	for _, a := range all {
		for _, b := range all {
			if order.Ahead(a, b) != (place(a) < place(b)) {
				t.Errorf("Ahead(%v, %v) is %v", a, b, place(a) >= place(b))
			}
		}
	}
}

// TestSortAtEdges is of P5.1: of none, of one, of the same again, and of both zeros.
func TestSortAtEdges(t *testing.T) {
	for i, x := range []struct{ l, want []float64 }{
		{nil, nil}, {[]float64{}, nil},
		{[]float64{3}, []float64{3}}, {[]float64{0}, []float64{0}}, {[]float64{minus}, []float64{minus}}, {[]float64{nan}, []float64{nan}}, {[]float64{-inf}, []float64{-inf}},
		{[]float64{3, 3, 3}, []float64{3, 3, 3}}, {[]float64{minus, minus}, []float64{minus, minus}}, {[]float64{nan, nan, nan}, []float64{nan, nan, nan}},
		{[]float64{0, minus}, []float64{minus, 0}}, {[]float64{minus, 0}, []float64{minus, 0}}, {[]float64{0, minus, 0, minus, 0}, []float64{minus, minus, 0, 0, 0}},
		{[]float64{2, 1}, []float64{1, 2}}, {[]float64{3, -1, 2, -2, 0, 2}, []float64{-2, -1, 0, 2, 2, 3}},
		{[]float64{nan, 1}, []float64{1, nan}}, {[]float64{nan, inf, nan, -inf}, []float64{-inf, inf, nan, nan}}, {[]float64{2, nan, 1}, []float64{1, 2, nan}},
		{[]float64{tiny, 0, -tiny, minus}, []float64{-tiny, minus, 0, tiny}}, {[]float64{inf, most, -most, -inf}, []float64{-inf, -most, most, inf}},
	} {
		if s := order.Sort(x.l); !sameRows(s, x.want) {
			t.Errorf("%d: Sort(%v) = %v", i, x.l, s)
		}
	}
}

// TestSort is of P5.1: of none a later one comes ahead, and all floats are there, as often as they were.
func TestSort(t *testing.T) {
	for _, l := range manyRows() {
		want := slices.Clone(l)
		slices.SortFunc(want, func(a, b float64) int { return cmp.Compare(place(a), place(b)) })
		s := order.Sort(l)
		if !sameRows(s, want) {
			t.Fatalf("Sort(%v) = %v, not %v", l, s, want)
		}
		if !sameRows(order.Sort(s), s) {
			t.Errorf("Sort(%v) is not as it was", s)
		}
	}
}

// TestRowsAreLeft is of P5.1, P5.2 and R4: a row is as it was, to the bit, and so is what lies behind its end; what is sorted is a row of its own.
func TestRowsAreLeft(t *testing.T) {
	for _, l := range manyRows() {
		all := append(slices.Clone(l), 9, -9, nan, minus, -inf)
		was := bitsOf(all)
		s := order.Sort(all[:len(l)])
		order.All(all[:len(l)])
		if !slices.Equal(bitsOf(all), was) {
			t.Fatalf("%v became %v", l, all)
		}
		for i := range s {
			s[i] = 12345
		}
		_ = append(s, 54321)
		if !slices.Equal(bitsOf(all), was) {
			t.Fatalf("what is sorted shares the row's memory: %v", l)
		}
	}
}

// TestAllOfNone is of P5.2 and P1: the error, and nothing beside it, not even the sign of a 0.
func TestAllOfNone(t *testing.T) {
	for _, l := range [][]float64{nil, {}, lined()[:0]} {
		s, e := order.All(l)
		if e != api.ErrNone {
			t.Errorf("All of none: %d", e)
		}
		for _, f := range []float64{s.Min, s.Max, s.Sum} {
			if math.Float64bits(f) != 0 {
				t.Errorf("All of none: %v", s)
			}
		}
	}
}

// checkAll holds what a row comes to against what it should.
func checkAll(t *testing.T, l []float64, least, greatest, sum float64) {
	t.Helper()
	s, e := order.All(l)
	if e != api.OK || !same(s.Min, least) || !same(s.Max, greatest) || !same(s.Sum, sum) {
		t.Errorf("All(%v) = %v, %d, not %v, %v, %v", l, s, e, least, greatest, sum)
	}
}

// TestAllOfOne is of P5.2: one float is its own least, greatest and sum.
func TestAllOfOne(t *testing.T) {
	for _, f := range slices.Concat(lined(), noNumbers(), mixed(500)) {
		checkAll(t, []float64{f}, f, f, f)
	}
}

// TestAllAtEdges is of P5.2: zeros, sums that overflow, that cancel, and whose last bits hang on the order, written out.
func TestAllAtEdges(t *testing.T) {
	for _, x := range []struct {
		l                    []float64
		least, greatest, sum float64
	}{
		{[]float64{1, 2, minus}, minus, 2, 3}, {[]float64{3, 3, 3}, 3, 3, 9}, {[]float64{-1, -2, -3}, -3, -1, -6},
		{[]float64{0, minus}, minus, 0, 0}, {[]float64{minus, 0}, minus, 0, 0}, {[]float64{minus, minus}, minus, minus, minus}, {[]float64{0, 0}, 0, 0, 0}, {[]float64{minus, minus, minus, 0}, minus, 0, 0},
		{[]float64{1, -1}, -1, 1, 0}, {[]float64{-1, 1}, -1, 1, 0}, {[]float64{-tiny, tiny, minus}, -tiny, tiny, 0}, {[]float64{minus, -tiny}, -tiny, minus, -tiny},
		{[]float64{most, most}, most, most, inf}, {[]float64{-most, -most}, -most, -most, -inf}, {[]float64{most, -most}, -most, most, 0},
		{[]float64{most, most, -most}, -most, most, inf}, {[]float64{most, -most, most}, -most, most, most}, {[]float64{-most, -most, most, most}, -most, most, -inf},
		{[]float64{most, 0x1p969}, 0x1p969, most, most}, {[]float64{most, 0x1p970}, 0x1p970, most, inf},
		{[]float64{most, most, -inf}, -inf, most, nan}, {[]float64{inf, -inf}, -inf, inf, nan}, {[]float64{inf, 1, -most}, -most, inf, inf}, {[]float64{1, -inf, most}, -inf, most, -inf}, {[]float64{inf, inf}, inf, inf, inf},
		{[]float64{0x1p53, 1, 1}, 1, 0x1p53, 0x1p53}, {[]float64{1, 1, 0x1p53}, 1, 0x1p53, 0x1p53 + 2}, {[]float64{1, 0x1p53, 1}, 1, 0x1p53, 0x1p53},
		{[]float64{1e100, 1, -1e100}, -1e100, 1e100, 0}, {[]float64{1e100, -1e100, 1}, -1e100, 1e100, 1}, {[]float64{1, 1e100, -1e100}, -1e100, 1e100, 0},
		{[]float64{0.1, 0.2, 0.3}, 0.1, 0.3, 0.6000000000000001}, {[]float64{0.3, 0.2, 0.1}, 0.1, 0.3, 0.6}, {[]float64{0.2, 0.3, 0.1}, 0.1, 0.3, 0.6},
		{[]float64{nan, 1, 2}, 1, nan, nan}, {[]float64{1, nan, 2}, 1, nan, nan}, {[]float64{2, 1, nan}, 1, nan, nan}, {[]float64{nan, -inf}, -inf, nan, nan}, {[]float64{nan, nan}, nan, nan, nan},
		{[]float64{nan, 0, minus}, minus, nan, nan}, {[]float64{inf, nan}, inf, nan, nan},
	} {
		checkAll(t, x.l, x.least, x.greatest, x.sum)
	}
}

// TestAll is of P5.2: many rows, with sums that are worked out without bounds, and rounded one by one.
func TestAll(t *testing.T) {
	for _, l := range manyRows() {
		least, greatest, sum := l[0], l[0], l[0]
		for _, f := range l[1:] {
			if place(f) < place(least) {
				least = f
			}
			if place(f) > place(greatest) {
				greatest = f
			}
			sum = plus(sum, f)
		}
		checkAll(t, l, least, greatest, sum)
	}
}

// TestSumsHangOnTheOrder is of P5.2: floats of sizes that are not far apart are added as they stand, from the first one on.
func TestSumsHangOnTheOrder(t *testing.T) {
	sums := map[uint64]bool{}
	var l []float64
	for i := range 50 {
		l = append(l, 1/float64(3+i*i))
	}
	for range l {
		l = append(l[1:], l[0])
		sum := l[0]
		for _, f := range l[1:] {
			sum = plus(sum, f)
		}
		checkAll(t, l, slices.Min(l), slices.Max(l), sum)
		sums[math.Float64bits(sum)] = true
	}
	if len(sums) < 2 {
		t.Error("these sums do not hang on the order: the test holds nothing")
	}
}

// TestShareAtEdges is of P5.2 and P5.3: by 0, of 0, of the least and the greatest ints, and of those that a float does not hold, written out.
func TestShareAtEdges(t *testing.T) {
	for _, x := range []struct {
		a, b int
		want float64
	}{
		{3, 4, 0.75}, {1, 3, 0.3333333333333333}, {2, 3, 0.6666666666666666}, {-3, 4, -0.75}, {3, -4, -0.75}, {-3, -4, 0.75}, {4, 4, 1}, {7, 1, 7}, {5, -5, -1},
		{0, 0, nan}, {1, 0, inf}, {-1, 0, -inf}, {mostInt, 0, inf}, {leastInt, 0, -inf},
		{0, 1, 0}, {0, 5, 0}, {0, mostInt, 0}, {0, -1, minus}, {0, -3, minus}, {0, leastInt, minus},
		{leastInt, 1, -0x1p63}, {leastInt, -1, 0x1p63}, {mostInt, 1, 0x1p63}, {mostInt, -1, -0x1p63}, {leastInt, leastInt, 1}, {mostInt, mostInt, 1}, {leastInt, mostInt, -1}, {mostInt, leastInt, -1}, {mostInt - 1, mostInt, 1},
		{1, leastInt, -0x1p-63}, {1, mostInt, 0x1p-63}, {-1, leastInt, 0x1p-63},
		{1<<53 - 1, 1, 0x1p53 - 1}, {1 << 53, 1, 0x1p53}, {1<<53 + 1, 1, 0x1p53}, {1<<53 + 2, 1, 0x1p53 + 2}, {1<<53 + 3, 1, 0x1p53 + 4}, {1<<53 + 1, 1<<53 + 1, 1}, {1<<53 + 1, 1 << 53, 1}, {1 << 53, 1<<53 + 1, 1},
	} {
		if f := order.Share(x.a, x.b); !same(f, x.want) {
			t.Errorf("Share(%d, %d) = %v, not %v", x.a, x.b, f, x.want)
		}
	}
}

// rounded is an int as a number of 53 digits.
func rounded(n int) *big.Float { return new(big.Float).SetPrec(53).SetInt64(int64(n)) }

// TestShare is of P5.2: both are rounded first, and then what they come to.
func TestShare(t *testing.T) {
	var numbers []int
	for n := range 63 {
		for d := -2; d <= 2; d++ {
			numbers = append(numbers, 1<<n+d, -1<<n+d)
		}
	}
	numbers = append(numbers, leastInt, leastInt+1, mostInt-1, mostInt, 1234567890123456789, -987654321987654321)
	for _, a := range numbers {
		for _, b := range numbers {
			if a == 0 || b == 0 {
				continue // TestShareAtEdges and TestSharesOfNothing are of these
			}
			want, _ := new(big.Float).SetPrec(53).Quo(rounded(a), rounded(b)).Float64()
			if f := order.Share(a, b); !same(f, want) {
				t.Fatalf("Share(%d, %d) = %v, not %v", a, b, f, want)
			}
		}
	}
}

// TestAheadIsAnOrder is of P5.3: none comes ahead of itself, nor of one that comes ahead of it; and who comes ahead of one comes ahead of those behind that one, and of those alike.
func TestAheadIsAnOrder(t *testing.T) {
	all := slices.Concat(lined(), noNumbers(), mixed(30))
	alike := func(a, b float64) bool { return !order.Ahead(a, b) && !order.Ahead(b, a) }
	for _, a := range all {
		if order.Ahead(a, a) {
			t.Errorf("%v comes ahead of itself", a)
		}
		for _, b := range all {
			if order.Ahead(a, b) && order.Ahead(b, a) {
				t.Errorf("%v and %v both come ahead", a, b)
			}
			for _, c := range all {
				if order.Ahead(a, b) && !order.Ahead(c, b) && !order.Ahead(a, c) {
					t.Errorf("%v comes ahead of %v, but not of %v", a, b, c)
				}
				if alike(a, b) && alike(b, c) && !alike(a, c) {
					t.Errorf("%v, %v and %v: not all are alike", a, b, c)
				}
			}
		}
	}
}

// TestWhoIsAlike is of P5.3: what is no number, whatever its bits, and it is last; else a float and itself alone, and not even both zeros.
func TestWhoIsAlike(t *testing.T) {
	for _, a := range noNumbers() {
		for _, b := range noNumbers() {
			if order.Ahead(a, b) {
				t.Errorf("of bits %X, ahead of bits %X", math.Float64bits(a), math.Float64bits(b))
			}
		}
		for _, f := range append(lined(), mixed(500)...) {
			if order.Ahead(a, f) || order.Ahead(f, a) != (f == f) {
				t.Errorf("%v is not ahead of what is no number", f)
			}
		}
	}
	if !order.Ahead(minus, 0) || order.Ahead(0, minus) {
		t.Error("minus 0 does not come ahead of 0")
	}
	for i, a := range lined() {
		for k, b := range lined() {
			if (!order.Ahead(a, b) && !order.Ahead(b, a)) != (i == k) {
				t.Errorf("%v and %v", a, b)
			}
		}
	}
}

// TestEndsOfWhatIsSorted is of P5.3: the first that is sorted is the least of all, and the last the greatest.
func TestEndsOfWhatIsSorted(t *testing.T) {
	for _, l := range manyRows() {
		all, e := order.All(l)
		s := order.Sort(l)
		if e != api.OK || len(s) != len(l) || !same(s[0], all.Min) || !same(s[len(s)-1], all.Max) {
			t.Fatalf("%v is sorted %v, and comes to %v, %d", l, s, all, e)
		}
	}
}

// TestSharesOfNothing is of P5.3: of nothing by nothing it is no number; of something by nothing infinite, with the sign of that.
func TestSharesOfNothing(t *testing.T) {
	if k := order.Class(order.Share(0, 0)); k != api.CNaN {
		t.Error(k)
	}
	for n := range 63 {
		for _, x := range []struct{ a, b, want int }{
			{1 << n, 0, api.CInf}, {-1 << n, 0, api.CNegInf}, {0, 1 << n, api.CZero}, {0, -1 << n, api.CNegZero},
			{1 << n, 3, api.CPos}, {-1 << n, 3, api.CNeg}, {3, -1 << n, api.CNeg}, {-3, -1 << n, api.CPos},
		} {
			if k := order.Class(order.Share(x.a, x.b)); k != x.want {
				t.Errorf("Share(%d, %d) is of class %d, not %d", x.a, x.b, k, x.want)
			}
		}
	}
}
