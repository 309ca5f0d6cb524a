package prog_test

import (
	"math"
	"regexp"
	"slices"
	"strconv"
	"strings"
	"testing"

	"deadbolt/api"
	"deadbolt/prog"
)

const (
	leastInt = math.MinInt
	mostInt  = math.MaxInt
)

func lock(n int) api.Act   { return api.Act{Kind: 0, N: n} }
func try(n int) api.Act    { return api.Act{Kind: 1, N: n} }
func unlock(n int) api.Act { return api.Act{Kind: 2, N: n} }
func work(n int) api.Act   { return api.Act{Kind: 3, N: n} }

// mayActs is all acts that may be of mutexes, and of work those at the edges and some between.
func mayActs() []api.Act {
	var l []api.Act
	for n := range 4 {
		l = append(l, lock(n), try(n), unlock(n))
	}
	for _, n := range []int{0, 1, 3, 4, 5, 9, 10, 99, 100, 101, 255, 256, 500, 998, 999, 1000} {
		l = append(l, work(n))
	}
	return l
}

// mayNotActs is acts that may not be: of kinds that there are not, and with numbers that are too great, or below 0.
func mayNotActs() []api.Act {
	var l []api.Act
	for _, kind := range []int{-1, 4, 5, -2, -3, 256, 257, 1 << 32, 1<<32 + 3, leastInt, leastInt + 3, mostInt - 1, mostInt} {
		for _, n := range []int{0, 3, 4, -1, 1000, 1001, leastInt, mostInt} {
			l = append(l, api.Act{Kind: kind, N: n})
		}
	}
	for _, n := range []int{-1, -2, -4, -256, -1000, -1 << 32, leastInt, leastInt + 1, 1001, 1002, 1 << 16, 999999, 1 << 32, 1<<32 + 1, mostInt - 1, mostInt} {
		l = append(l, lock(n), try(n), unlock(n), work(n))
	}
	for _, n := range []int{4, 5, 8, 255, 256, 999, 1000} {
		l = append(l, lock(n), try(n), unlock(n))
	}
	return l
}

// turning is a program of n acts that may be, from one of them on, each so many behind the one ahead of it.
func turning(n, from, step int) []api.Act {
	may := mayActs()
	l := make([]api.Act, n)
	for i := range l {
		l[i] = may[(from+i*step)%len(may)]
	}
	return l
}

// mayPrograms is programs that may be: of none to eight, which have none to 64 acts.
func mayPrograms() [][][]api.Act {
	all := [][][]api.Act{nil, {}, {nil}, {{}}, {nil, {}}}
	for _, a := range mayActs() {
		all = append(all, [][]api.Act{{a}}, [][]api.Act{{a}, nil, {a, a}})
	}
	for n := 1; n <= 8; n++ {
		for _, acts := range []int{0, 1, 2, 7, 63, 64} {
			for step := range 4 {
				var l [][]api.Act
				for i := range n {
					l = append(l, turning(acts, i*5+n, step))
				}
				all = append(all, l, with(l, n/2, nil), with(l, 0, turning(64-acts, n, 3)), with(l, n-1, turning(1, n, 0)))
			}
		}
	}
	return all
}

// with is a list with something else at a place.
func with[E any](l []E, at int, e E) []E {
	m := slices.Clone(l)
	m[at] = e
	return m
}

// mayNotPrograms is programs that may not be: too many, too many acts in one of them, at any place, and one act at any place that may not be.
func mayNotPrograms() [][][]api.Act {
	var all [][][]api.Act
	for _, n := range []int{9, 10, 64, 256, 1000} {
		all = append(all, make([][]api.Act, n), with(make([][]api.Act, n), 0, turning(64, 0, 1)))
	}
	for n := 1; n <= 8; n++ {
		l := make([][]api.Act, n)
		for i := range l {
			l[i] = turning(3*i+2, i, 7)
		}
		for at := range n {
			for _, acts := range []int{65, 66, 128, 256, 1000} {
				all = append(all, with(l, at, turning(acts, at, 1)))
			}
			for _, a := range mayNotActs() {
				for _, place := range []int{0, len(l[at]) / 2, len(l[at]) - 1} {
					all = append(all, with(l, at, with(l[at], place, a)))
				}
			}
		}
	}
	for place := range 64 {
		all = append(all, [][]api.Act{with(turning(64, 3, 1), place, work(1001))}, [][]api.Act{nil, with(turning(64, 3, 1), place, api.Act{Kind: 4})})
	}
	return all
}

// roomy is the same acts, with room behind their end.
func roomy(l []api.Act) []api.Act {
	return append(slices.Clone(l), api.Act{Kind: -5, N: 77}, try(1), lock(2))[:len(l)]
}

// roomyAll is the same programs, with room behind the ends of all lists.
func roomyAll(l [][]api.Act) [][]api.Act {
	var m [][]api.Act
	for _, acts := range l {
		m = append(m, roomy(acts))
	}
	return append(m, []api.Act{{Kind: 9}}, roomy([]api.Act{lock(1)}), nil)[:len(l)]
}

// whole is a copy of all that there is of programs, room and all.
func whole(l [][]api.Act) [][]api.Act {
	var m [][]api.Act
	for _, acts := range l[:cap(l)] {
		m = append(m, slices.Clone(acts[:cap(acts)]))
	}
	return m
}

func same(l, m [][]api.Act) bool {
	return slices.EqualFunc(l, m, slices.Equal[[]api.Act])
}

// write is programs' text, put together without asking whether they may be.
func write(l [][]api.Act) string {
	text := ""
	for _, acts := range l {
		for i, a := range acts {
			if i > 0 {
				text += "; "
			}
			switch a.Kind {
			case 0:
				text += "lock "
			case 1:
				text += "try "
			case 2:
				text += "unlock "
			case 3:
				text += "work "
			}
			text += strconv.Itoa(a.N)
		}
		text += "\n"
	}
	return text
}

// checkParse holds what Parse answers: all programs, or the first line that is wrong, and why.
func checkParse(t *testing.T, text string, want [][]api.Act, line int, why api.Errno) {
	t.Helper()
	l, at, e := prog.Parse(text)
	if !same(l, want) || at != line || e != why {
		t.Fatalf("Parse(%.300q) = %v, %d, %d, not %v, %d, %d", text, l, at, e, want, line, why)
	}
}

// checkWrong holds that a text is refused.
func checkWrong(t *testing.T, text string, line int, why api.Errno) {
	t.Helper()
	checkParse(t, text, nil, line, why)
}

// TestApi is of P12.1 and P12.2: the kinds, the limits and the errors are those that the document names.
func TestApi(t *testing.T) {
	if api.ALock != 0 || api.ATry != 1 || api.AUnlock != 2 || api.AWork != 3 {
		t.Error(api.ALock, api.ATry, api.AUnlock, api.AWork)
	}
	if api.MaxGors != 8 || api.MaxActs != 64 || api.MaxWork != 1000 || api.MaxMutexes != 4 || api.MaxText != 2000 {
		t.Error(api.MaxGors, api.MaxActs, api.MaxWork, api.MaxMutexes, api.MaxText)
	}
	if api.OK != 0 || api.ErrArg != 1 || api.ErrSize != 2 || api.ErrRange != 3 || api.ErrFull != 5 || api.ErrWord != 8 || api.ErrChar != 9 {
		t.Error(api.OK, api.ErrArg, api.ErrSize, api.ErrRange, api.ErrFull, api.ErrWord, api.ErrChar)
	}
}

// TestExamples is of P12.1 and P12.2: the chapter's.
func TestExamples(t *testing.T) {
	checkParse(t, "lock 0; work 5; unlock 0", [][]api.Act{{lock(0), work(5), unlock(0)}}, 0, api.OK)
	checkWrong(t, "lock 9", 0, api.ErrRange)
}

// TestRight is of P12.1: none to eight programs, of none to 64 acts, each kind with each number that it may have.
func TestRight(t *testing.T) {
	for _, l := range mayPrograms() {
		if !prog.Right(l) {
			t.Fatalf("%v may be", l)
		}
	}
	for n := range 1001 {
		if !prog.Right([][]api.Act{{work(n)}}) {
			t.Errorf("work %d may be", n)
		}
		for _, a := range []api.Act{lock(n), try(n), unlock(n)} {
			if prog.Right([][]api.Act{{a}}) != (n < 4) {
				t.Errorf("%v", a)
			}
		}
	}
	if !prog.Right(make([][]api.Act, 7)) || !prog.Right(make([][]api.Act, 8)) || !prog.Right([][]api.Act{make([]api.Act, 63), make([]api.Act, 64)}) {
		t.Error("seven and eight programs may be, 63 and 64 acts too")
	}
}

// TestNotRight is of P12.1: nine programs and more, 65 acts and more, kinds that there are not, and numbers that are too great or below 0, at any place.
func TestNotRight(t *testing.T) {
	for _, l := range mayNotPrograms() {
		if prog.Right(l) {
			t.Fatalf("%v may not be", l)
		}
	}
	for _, a := range mayNotActs() {
		if prog.Right([][]api.Act{{a}}) || prog.Right([][]api.Act{nil, {}, {lock(0), a}}) {
			t.Errorf("%v may not be", a)
		}
	}
	if prog.Right(make([][]api.Act, 9)) || prog.Right([][]api.Act{make([]api.Act, 65)}) {
		t.Error("nine programs may not be, nor 65 acts")
	}
}

// TestBehindTheEnd is of P12.1: what stands behind the ends of lists is none of them.
func TestBehindTheEnd(t *testing.T) {
	l := roomyAll([][]api.Act{{lock(0), unlock(0)}, {work(7)}})
	if !prog.Right(l) || !prog.Right(l[:0]) || prog.Right(l[:3]) || !prog.Tidy(l[0]) || prog.Tidy(l[0][:4]) {
		t.Error(whole(l))
	}
	if text, e := prog.Print(l); text != "lock 0; unlock 0\nwork 7\n" || e != api.OK {
		t.Errorf("%q, %d", text, e)
	}
	if text, e := prog.Print(l[:3]); text != "" || e != api.ErrArg {
		t.Errorf("%q, %d", text, e)
	}
}

// TestPrint is of P12.1: the text of programs that may be, be it too long to be parsed.
func TestPrint(t *testing.T) {
	longest := 0
	for _, l := range mayPrograms() {
		text, e := prog.Print(l)
		if text != write(l) || e != api.OK {
			t.Fatalf("Print(%v) = %q, %d, not %q", l, text, e, write(l))
		}
		longest = max(longest, len(text))
	}
	if longest <= 2*api.MaxText {
		t.Errorf("the longest has %d bytes alone", longest)
	}
}

// TestPrintAtEdges is of P12.1: what the document names, told one by one.
func TestPrintAtEdges(t *testing.T) {
	for _, c := range []struct {
		l    [][]api.Act
		text string
	}{
		{nil, ""},
		{[][]api.Act{}, ""},
		{[][]api.Act{nil}, "\n"},
		{[][]api.Act{{}, nil, {}}, "\n\n\n"},
		{make([][]api.Act, 8), "\n\n\n\n\n\n\n\n"},
		{[][]api.Act{{lock(0)}}, "lock 0\n"},
		{[][]api.Act{{lock(3), try(0), try(3), unlock(0), unlock(3), work(0), work(10), work(1000)}}, "lock 3; try 0; try 3; unlock 0; unlock 3; work 0; work 10; work 1000\n"},
		{[][]api.Act{nil, {work(100)}, {}, {try(1), try(2)}, nil}, "\nwork 100\n\ntry 1; try 2\n\n"},
		{[][]api.Act{make([]api.Act, 63)}, strings.Repeat("lock 0; ", 62) + "lock 0\n"},
		{[][]api.Act{make([]api.Act, 64), {work(1)}}, strings.Repeat("lock 0; ", 63) + "lock 0\nwork 1\n"},
	} {
		if text, e := prog.Print(c.l); text != c.text || e != api.OK {
			t.Errorf("Print(%v) = %q, %d, not %q", c.l, text, e, c.text)
		}
	}
}

// TestPrintWrong is of P12.1: of programs that may not be there is no text.
func TestPrintWrong(t *testing.T) {
	for _, l := range mayNotPrograms() {
		if text, e := prog.Print(l); text != "" || e != api.ErrArg {
			t.Fatalf("Print(%v) = %q, %d", l, text, e)
		}
	}
}

// TestParse is of P12.2: texts that are programs, with a byte 10 at their ends or without, empty lines first, in the middle and last among them.
func TestParse(t *testing.T) {
	for _, c := range []struct {
		text string
		l    [][]api.Act
	}{
		{"", nil},
		{"\n", [][]api.Act{nil}},
		{"\n\n", [][]api.Act{nil, nil}},
		{"\n\n\n\n\n\n\n", make([][]api.Act, 7)},
		{"\n\n\n\n\n\n\n\n", make([][]api.Act, 8)},
		{"lock 0", [][]api.Act{{lock(0)}}},
		{"lock 0\n", [][]api.Act{{lock(0)}}},
		{"lock 0\n\n", [][]api.Act{{lock(0)}, nil}},
		{"\nlock 0", [][]api.Act{nil, {lock(0)}}},
		{"\n\nlock 0\n", [][]api.Act{nil, nil, {lock(0)}}},
		{"try 1\n\nunlock 2\n\n", [][]api.Act{{try(1)}, nil, {unlock(2)}, nil}},
		{"try 1\ntry 2", [][]api.Act{{try(1)}, {try(2)}}},
		{"lock 3; try 3; unlock 3; work 3; work 4", [][]api.Act{{lock(3), try(3), unlock(3), work(3), work(4)}}},
		{"work 0; work 9; work 10; work 999; work 1000\nwork 1", [][]api.Act{{work(0), work(9), work(10), work(999), work(1000)}, {work(1)}}},
		{"\n\n\n\n\n\n\nwork 8", with(make([][]api.Act, 8), 7, []api.Act{work(8)})},
		{"\n\n\n\n\n\n\nwork 8\n", with(make([][]api.Act, 8), 7, []api.Act{work(8)})},
		{"work 8\n\n\n\n\n\n\n\n", with(make([][]api.Act, 8), 0, []api.Act{work(8)})},
		{strings.Repeat("lock 0; ", 62) + "lock 0", [][]api.Act{make([]api.Act, 63)}},
		{strings.Repeat("lock 0; ", 63) + "lock 0", [][]api.Act{make([]api.Act, 64)}},
		{strings.Repeat("lock 0; ", 63) + "lock 0\n" + strings.Repeat("lock 0; ", 63) + "lock 0\n", [][]api.Act{make([]api.Act, 64), make([]api.Act, 64)}},
	} {
		checkParse(t, c.text, c.l, 0, api.OK)
	}
}

// filled is a text of so many bytes, from 1999 to 2001, that has eight lines of 250 bytes or some; the last one ends by a byte 10, or not.
func filled(n int, ended bool) (string, [][]api.Act) {
	row := func(locks, tries int) []api.Act {
		return append(make([]api.Act, locks), slices.Repeat([]api.Act{try(0)}, tries)...)
	}
	l := slices.Repeat([][]api.Act{row(27, 5)}, 8)
	last := n - 7*250 + 1
	if !ended {
		last++
	}
	for tries := range 8 {
		if rest := last - 7*tries; rest%8 == 0 {
			l[7] = row(rest/8, tries)
		}
	}
	text := write(l)
	if !ended {
		text = text[:len(text)-1]
	}
	return text, l
}

// TestTextSize is of P12.2: texts of up to 2000 bytes are read, those of more are not, whatever they say, and no line is told of them.
func TestTextSize(t *testing.T) {
	for _, ended := range []bool{false, true} {
		for n := 1999; n <= 2001; n++ {
			text, l := filled(n, ended)
			if len(text) != n || !prog.Right(l) {
				t.Fatal(n, ended, len(text), l)
			}
			if n <= 2000 {
				checkParse(t, text, l, 0, api.OK)
			} else {
				checkWrong(t, text, 0, api.ErrSize)
			}
		}
	}
	for _, n := range []int{1999, 2000} {
		checkWrong(t, strings.Repeat("\n", n), 8, api.ErrFull)
		checkWrong(t, strings.Repeat("x", n), 0, api.ErrWord)
		checkWrong(t, "\n"+strings.Repeat("\xff", n-1), 1, api.ErrWord)
		checkWrong(t, "\n\nwork "+strings.Repeat("1", n-7), 2, api.ErrChar)
		checkWrong(t, "\n"+strings.Repeat("try 1; ", 200)+strings.Repeat("x", n-1401), 1, api.ErrSize)
	}
	for _, n := range []int{2001, 2002, 4000, 1 << 16} {
		for _, part := range []string{"\n", "x", "\x00", "; ", "lock 0", "lock 4", "\nx\n", "work 01; "} {
			checkWrong(t, strings.Repeat(part, n)[:n], 0, api.ErrSize)
		}
		checkWrong(t, "\n\nlock 9\n"+strings.Repeat("\n", n-9), 0, api.ErrSize)
	}
}

// TestFull is of P12.2: a ninth line, whatever it says, is one too many, but an empty one that is the last.
func TestFull(t *testing.T) {
	eight := strings.Repeat("work 1\n", 8)
	checkParse(t, eight, slices.Repeat([][]api.Act{{work(1)}}, 8), 0, api.OK)
	for _, ninth := range []string{"\n", "lock 0", "lock 0\n", " ", "\n\n\n", "x", "lock 9", "lock 01", strings.Repeat("try 0; ", 65), ";", "; ", "\x00", "\r"} {
		for _, ahead := range []string{eight, "\n\n\n\n\n\n\n\n", "\n\n\n\nlock 0\n\n\n\n"} {
			checkWrong(t, ahead+ninth, 8, api.ErrFull)
		}
	}
	for line := range 8 {
		lines := slices.Repeat([]string{"work 1"}, 12)
		lines[line] = "work x"
		checkWrong(t, strings.Join(lines, "\n"), line, api.ErrChar)
	}
}

// tooMany is a line of n pieces, all the same, but one.
func tooMany(n, at int, piece string) string {
	pieces := slices.Repeat([]string{"try 2"}, n)
	pieces[at] = piece
	return strings.Join(pieces, "; ")
}

// TestLineSize is of P12.2: the piece behind the 64th is one too many, whatever it says; one that is wrong ahead of it tells first.
func TestLineSize(t *testing.T) {
	for _, n := range []int{65, 66, 80} {
		for _, piece := range []string{"try 2", "", "x", "lock", "lock ", "work 01", "lock 4", "work 1001"} {
			for at := 64; at < n; at++ {
				checkWrong(t, tooMany(n, at, piece), 0, api.ErrSize)
				checkWrong(t, "\nwork 1\n"+tooMany(n, at, piece)+"\nx", 2, api.ErrSize)
			}
		}
		for at := range 64 {
			checkWrong(t, tooMany(n, at, "Try 2"), 0, api.ErrWord)
			checkWrong(t, tooMany(n, at, ""), 0, api.ErrWord)
			checkWrong(t, tooMany(n, at, "try 02"), 0, api.ErrChar)
			checkWrong(t, "\n"+tooMany(n, at, "try 4"), 1, api.ErrRange)
		}
	}
	for _, n := range []int{63, 64} {
		checkParse(t, tooMany(n, 0, "try 2"), [][]api.Act{slices.Repeat([]api.Act{try(2)}, n)}, 0, api.OK)
		checkWrong(t, tooMany(n, n-1, "try"), 0, api.ErrWord)
	}
	checkWrong(t, tooMany(63, 0, "try 2")+"; ", 0, api.ErrWord)
	checkWrong(t, tooMany(64, 0, "try 2")+"; ", 0, api.ErrSize)
	checkWrong(t, tooMany(64, 0, "try 2")+";", 0, api.ErrChar)
	checkWrong(t, strings.Repeat("; ", 64), 0, api.ErrWord)
}

// wrongPieces is pieces that are wrong, by why.
func wrongPieces() map[api.Errno][]string {
	pieces := map[api.Errno][]string{api.ErrWord: {
		"", " ", "  ", "lock", "try", "unlock", "work", "lock ", "try ", "unlock ", "work ", "Lock 0", "LOCK 0", "locK 0", "Try 1", "tRy 1", "Unlock 1", "unLock 1", "UNLOCK 2", "Work 1", "WORK 1",
		" lock 0", "  lock 0", "lock0", "lock\t0", "lock\v0", "lock\r0", "lock\x000", "lock\xa00", "lock,0", "lock_0", "lock-0", "loc 0", "lockk 0", "ock 0", "un lock 0", "unloc 0", "tr 0", "tryy 0", "wor 0", "works 0", "worker 0", "trylock 0",
		"x", "x 0", "0", "0 lock", "00", "3 3", "lock;0", ";lock 0", "; lock", ";", ";;", "l\xf6ck 0", "l\u00f6ck 0", "\xfflock 0", "lock\xff 0", "\ufefflock 0", "lock\u00a00", "lock\u20030", "\x00", "\x00 0", "done 0", "give 0", "wait 0", "LOCK", "lock\r",
	}}
	for _, word := range []string{"lock ", "try ", "unlock ", "work "} {
		for _, digits := range []string{
			" ", "  ", " 0", "  0", "0 ", "1 ", " 1 ", "1 2", "-", "+", "-0", "+0", "-1", "+1", "--1", "00", "01", "03", "000", "007", "0000000", "000000", "000001", "0x1", "0b1", "0o7", "1_0", "1e2", "1.", "1.0", ".5", "1,0", "x", "a", "1a", "a1", "O", "l", "1l",
			"1000000", "1000001", "9999999", "0999999", "10000000", "2147483648", "4294967296", "4294967297", "9223372036854775807", "9223372036854775808", "18446744073709551616", "18446744073709551617", "99999999999999999999999999", "-9223372036854775808",
			"\x00", "0\x00", "\x000", "1\r", "1\t", "\t1", "1;", ";1", ";", "1;1", "1;work 1", "\xff", "1\xff", "\xff1", "\xb2", "\u0661", "\uff11", "1\u00a0", "\u00b2", "/", ":", "1/", "1:", "\"1\"", "(1)", "NaN", "inf",
		} {
			pieces[api.ErrChar] = append(pieces[api.ErrChar], word+digits)
		}
		for _, digits := range []string{"1001", "1002", "1999", "2000", "9999", "10000", "65536", "99999", "100000", "100001", "262144", "999998", "999999"} {
			pieces[api.ErrRange] = append(pieces[api.ErrRange], word+digits)
		}
	}
	for _, word := range []string{"lock ", "try ", "unlock "} {
		for _, digits := range []string{"4", "5", "9", "10", "99", "100", "255", "256", "999", "1000"} {
			pieces[api.ErrRange] = append(pieces[api.ErrRange], word+digits)
		}
	}
	return pieces
}

// TestPieces is of P12.2: each piece that is wrong by itself, alone, first, between others and last, at the first line, between others and at the eighth.
func TestPieces(t *testing.T) {
	for why, pieces := range wrongPieces() {
		for _, piece := range pieces {
			if piece != "" {
				checkWrong(t, piece, 0, why)
				checkWrong(t, piece+"\n", 0, why)
			}
			for _, line := range []string{piece + "; work 5", "work 5; " + piece, "lock 0; " + piece + "; unlock 0", "work 1; work 2; work 3; " + piece + "\n"} {
				checkWrong(t, line, 0, why)
				checkWrong(t, "\n"+line, 1, why)
				checkWrong(t, "lock 0\n\nunlock 0\n"+line+"\nlock 1", 3, why)
				checkWrong(t, "\n\n\n\n\n\n\n"+line, 7, why)
			}
		}
	}
}

// TestFirst is of P12.2: of two lines that are wrong the first one tells, and of two pieces that are wrong the first one.
func TestFirst(t *testing.T) {
	first := map[api.Errno]string{api.ErrSize: tooMany(65, 64, "try 2"), api.ErrWord: "lock", api.ErrChar: "lock 00", api.ErrRange: "lock 4"}
	for why, line := range first {
		for _, other := range first {
			checkWrong(t, line+"\n"+other, 0, why)
			checkWrong(t, "try 1\n\n"+line+"\nwork 5\n"+other+"\n", 2, why)
			checkWrong(t, "\n\n\n\n\n\n"+line+"\n"+other, 6, why)
			checkWrong(t, line+"\n"+other+"\n\n\n\n\n\n\n\n\n\n", 0, why)
			if why != api.ErrSize {
				checkWrong(t, line+"; "+other, 0, why)
				checkWrong(t, "work 1; "+line+"; work 2; "+other+"; work 3", 0, why)
			}
		}
		checkWrong(t, line+strings.Repeat("\n", 12), 0, why)
		checkWrong(t, strings.Repeat("\n", 7)+line+strings.Repeat("\n", 12), 7, why)
		checkWrong(t, strings.Repeat("\n", 8)+line, 8, api.ErrFull)
	}
}

// TestFirstOfAPiece is of P12.2: where a piece is wrong in more than one way, the word tells ahead of the digits, and these ahead of the number.
func TestFirstOfAPiece(t *testing.T) {
	for _, piece := range []string{"Lock 01", "x -1", "lok 9", "worK 1001", "locks 1000000", "lock0 x", " lock  9"} {
		checkWrong(t, piece, 0, api.ErrWord)
		checkWrong(t, "\nwork 1; "+piece, 1, api.ErrWord)
	}
	for _, piece := range []string{"lock 09", "work 01001", "unlock -1", "try 4 ", "lock  9", "work 1001x", "work 1000000", "work +1001", "try 0009"} {
		checkWrong(t, piece, 0, api.ErrChar)
		checkWrong(t, "\nwork 1; "+piece, 1, api.ErrChar)
	}
}

// TestCuts is of P12.2: a line is cut at `; ` alone, and as often as that stands there.
func TestCuts(t *testing.T) {
	for _, c := range []struct {
		text string
		why  api.Errno
	}{
		{"try 0;unlock 0", api.ErrChar}, {"try 0;", api.ErrChar}, {"try 0; ", api.ErrWord}, {"try 0;  try 0", api.ErrWord}, {"try 0 ; try 0", api.ErrChar}, {"try 0;; try 0", api.ErrChar}, {"try 0; ; try 0", api.ErrWord}, {"; try 0", api.ErrWord}, {"try 0,try 0", api.ErrChar}, {"try 0, try 0", api.ErrChar}, {"try 0;\ttry 0", api.ErrChar}, {"try 0; try 0; ", api.ErrWord}, {"try 0; try 0;", api.ErrChar}, {"try 0;\n try 0", api.ErrChar}, {"; ", api.ErrWord}, {"; ; ", api.ErrWord}, {";", api.ErrWord}, {" ", api.ErrWord},
		{"try 0\r\ntry 0", api.ErrChar}, {"try 0\rtry 0", api.ErrChar}, {"try 0\x00", api.ErrChar}, {"try 0\u0085", api.ErrChar}, {"try 0\u2028try 0", api.ErrChar},
	} {
		checkWrong(t, c.text, 0, c.why)
		checkWrong(t, "lock 1; unlock 1\n\n"+c.text, 2, c.why)
	}
}

// TestNumbers is of P12.2: each number from 0 on till far behind the greatest that may be, behind each word, as a text has it, and with a 0 ahead.
func TestNumbers(t *testing.T) {
	for kind, word := range []string{"lock ", "try ", "unlock ", "work "} {
		for n := range 10100 {
			text := word + strconv.Itoa(n)
			if kind == 3 && n <= 1000 || n <= 3 {
				checkParse(t, text, [][]api.Act{{{Kind: kind, N: n}}}, 0, api.OK)
			} else {
				checkWrong(t, text, 0, api.ErrRange)
			}
			checkWrong(t, word+"0"+strconv.Itoa(n), 0, api.ErrChar)
			checkWrong(t, word+"-"+strconv.Itoa(n), 0, api.ErrChar)
		}
		for n := 999000; n < 1001000; n++ {
			why := api.ErrRange
			if n > 999999 {
				why = api.ErrChar
			}
			checkWrong(t, "\n"+word+strconv.Itoa(n), 1, why)
		}
	}
}

// judge is another way to read: what the whole of a piece has to look like.
type judge struct {
	word, digits, may *regexp.Regexp
}

func newJudge() judge {
	return judge{
		word:   regexp.MustCompile(`^(?s:(lock|try|unlock|work) .+)$`),
		digits: regexp.MustCompile(`^[a-z]+ (0|[1-9][0-9]{0,5})$`),
		may:    regexp.MustCompile(`^((lock|try|unlock) [0-3]|work ([0-9]{1,3}|1000))$`),
	}
}

// why is what is wrong with a piece.
func (j judge) why(piece string) api.Errno {
	switch {
	case !j.word.MatchString(piece):
		return api.ErrWord
	case !j.digits.MatchString(piece):
		return api.ErrChar
	case !j.may.MatchString(piece):
		return api.ErrRange
	}
	return api.OK
}

// text is what is wrong with a text, and where.
func (j judge) text(text string) (int, api.Errno) {
	if len(text) > 2000 {
		return 0, api.ErrSize
	}
	for at := 0; text != ""; at++ {
		line, rest, _ := strings.Cut(text, "\n")
		if at == 8 {
			return at, api.ErrFull
		}
		for i := 0; line != "" || i > 0; i++ {
			piece, behind, more := strings.Cut(line, "; ")
			if i == 64 {
				return at, api.ErrSize
			}
			if why := j.why(piece); why != api.OK {
				return at, why
			}
			if !more {
				break
			}
			line = behind
		}
		text = rest
	}
	return 0, api.OK
}

// hold holds what is said of a text, and if that is right, that what it says may be, and is printed and parsed as it was.
func (j judge) hold(t *testing.T, text string) api.Errno {
	t.Helper()
	line, why := j.text(text)
	l, at, e := prog.Parse(text)
	if at != line || e != why {
		t.Fatalf("Parse(%.300q) = %v, %d, %d, not %d, %d", text, l, at, e, line, why)
	}
	if e != api.OK {
		if len(l) != 0 {
			t.Fatalf("Parse(%.300q) = %v, %d, %d", text, l, at, e)
		}
		return e
	}
	printed, e := prog.Print(l)
	if !prog.Right(l) || e != api.OK || printed != write(l) || strings.TrimSuffix(printed, "\n") != strings.TrimSuffix(text, "\n") {
		t.Fatalf("Parse(%.300q) = %v, printed as %q", text, l, printed)
	}
	checkParse(t, printed, l, 0, api.OK)
	return api.OK
}

// TestShortTexts is of P12.2 and P12.3: all texts of up to five parts.
func TestShortTexts(t *testing.T) {
	parts := []string{"lock", "work", " ", ";", "; ", "\n", "0", "3", "4", "1000", "x"}
	j := newJudge()
	seen := map[api.Errno]int{}
	var all func(text string, more int)
	all = func(text string, more int) {
		seen[j.hold(t, text)]++
		if more == 0 {
			return
		}
		for _, part := range parts {
			all(text+part, more-1)
		}
	}
	all("", 5)
	all("lock 0; ", 4)
	all("lock 0\nwork 3", 4)
	all("\n\n\n\n\n\nlock 0\n", 3)
	for _, why := range []api.Errno{api.OK, api.ErrFull, api.ErrWord, api.ErrChar, api.ErrRange} {
		if seen[why] < 20 {
			t.Errorf("%d came %d times: too seldom to say anything", why, seen[why])
		}
	}
}

// TestOtherBytes is of P12.2 and P12.3: texts in which one byte is another one, or is away, or one more stands there, each at each place.
func TestOtherBytes(t *testing.T) {
	j := newJudge()
	for _, text := range []string{"lock 0; work 15; unlock 0", "\ntry 3; work 1000\n\nwork 0", "unlock 2\n", "work 999999", strings.Repeat("\n", 7) + "try 1"} {
		for at := range len(text) + 1 {
			for b := range 256 {
				j.hold(t, text[:at]+string([]byte{byte(b)})+text[at:])
				if at < len(text) {
					j.hold(t, text[:at]+string([]byte{byte(b)})+text[at+1:])
				}
			}
			if at < len(text) {
				j.hold(t, text[:at]+text[at+1:])
			}
			j.hold(t, text[:at])
			j.hold(t, text[at:])
		}
	}
}

// TestLongTexts is of P12.2 and P12.3: long texts by rules, whole, cut off at each place, and with a byte changed.
func TestLongTexts(t *testing.T) {
	j := newJudge()
	for _, l := range mayPrograms() {
		text := write(l)
		j.hold(t, text)
		for at := range len(text) {
			if at%37 == len(l) {
				j.hold(t, text[:at])
				j.hold(t, text[at:])
				j.hold(t, text[:at]+"\n"+text[at:])
				j.hold(t, text[:at]+" "+text[at+1:])
				j.hold(t, text[:at]+text[at+1:])
			}
		}
	}
}

// TestPrintedAndParsed is of P12.3: what is printed, and is not too long, is parsed as it was; what is too long is not parsed at all.
func TestPrintedAndParsed(t *testing.T) {
	short, long := 0, 0
	for _, l := range mayPrograms() {
		text, e := prog.Print(l)
		if e != api.OK {
			t.Fatalf("Print(%v): %d", l, e)
		}
		if len(text) <= 2000 {
			short++
			checkParse(t, text, l, 0, api.OK)
		} else {
			long++
			checkWrong(t, text, 0, api.ErrSize)
		}
	}
	if short < 50 || long < 50 {
		t.Errorf("%d short ones and %d long ones: too few to say anything", short, long)
	}
}

// TestParsedAndPrinted is of P12.3 at its edge: a text of 2000 bytes is printed as it is where a byte 10 ends it, and by that byte longer than may be where none does; it may be in both cases.
func TestParsedAndPrinted(t *testing.T) {
	for n := 1999; n <= 2000; n++ {
		for _, ended := range []bool{false, true} {
			text, _ := filled(n, ended)
			l, _, _ := prog.Parse(text)
			printed, e := prog.Print(l)
			if !ended {
				text += "\n"
			}
			if !prog.Right(l) || e != api.OK || printed != text {
				t.Fatalf("%d, %t: %q, %d", n, ended, printed, e)
			}
			if len(text) <= 2000 {
				checkParse(t, printed, l, 0, api.OK)
			} else {
				checkWrong(t, printed, 0, api.ErrSize)
			}
		}
	}
}

// paired is another way to tell whether a program is tidy: but for what is no try, no lock and no unlock, it is pairs of one mutex.
func paired(l []api.Act) bool {
	var mutexes []api.Act
	for _, a := range l {
		if a.Kind == 1 {
			return false
		}
		if a.Kind == 0 || a.Kind == 2 {
			mutexes = append(mutexes, a)
		}
	}
	for pair := range slices.Chunk(mutexes, 2) {
		if len(pair) < 2 || pair[0].Kind != 0 || pair[1].Kind != 2 || pair[0].N != pair[1].N {
			return false
		}
	}
	return true
}

// checkTidy holds what Tidy answers, and that it leaves the acts that it was handed, room and all.
func checkTidy(t *testing.T, l []api.Act, want bool) {
	t.Helper()
	m := roomy(l)
	was := slices.Clone(m[:cap(m)])
	if prog.Tidy(m) != want {
		t.Fatalf("Tidy(%v) is not %t", l, want)
	}
	if !slices.Equal(m[:cap(m)], was) {
		t.Fatalf("Tidy changed %v to %v", was, m[:cap(m)])
	}
}

// TestTidy is of P12.1: what the document names, told one by one.
func TestTidy(t *testing.T) {
	if !prog.Tidy(nil) || !prog.Tidy([]api.Act{}) {
		t.Error("no acts are tidy")
	}
	for _, l := range [][]api.Act{
		{lock(0), unlock(0)},
		{lock(3), unlock(3), lock(0), unlock(0), lock(3), unlock(3)},
		{lock(1), unlock(1), lock(1), unlock(1)},
		{work(5)},
		{work(0), work(1000)},
		{work(1), lock(2), work(2), work(3), unlock(2), work(4), lock(0), work(0), unlock(0), work(5)},
	} {
		checkTidy(t, l, true)
	}
	for _, l := range [][]api.Act{
		{try(0)},
		{try(0), unlock(0)},
		{lock(0), try(0), unlock(0)},
		{lock(0), try(1), unlock(0)},
		{lock(0), unlock(0), try(2)},
		{try(3), lock(0), unlock(0)},
		{lock(0), lock(1), unlock(1), unlock(0)},
		{lock(0), lock(1), unlock(0), unlock(1)},
		{lock(0), lock(0), unlock(0), unlock(0)},
		{lock(0), lock(0), unlock(0)},
		{lock(0), unlock(0), unlock(0)},
		{lock(0), unlock(1)},
		{lock(1), unlock(0)},
		{lock(0), unlock(1), unlock(0)},
		{unlock(0)},
		{unlock(0), lock(0)},
		{unlock(0), lock(0), unlock(0)},
		{work(0), unlock(0)},
		{lock(0)},
		{lock(0), work(0)},
		{lock(0), unlock(0), lock(1)},
		{lock(0), unlock(0), lock(1), work(3)},
	} {
		checkTidy(t, l, false)
	}
}

// TestTidyWhateverNumbers is of P12.1: numbers that may not be, and more acts than may be, are as tidy as others; a kind that there is not is no try, no lock and no unlock.
func TestTidyWhateverNumbers(t *testing.T) {
	odd := []int{-1, 4, 5, 256, 1001, -1000, 1 << 32, leastInt, leastInt + 1, mostInt - 1, mostInt}
	for _, n := range odd {
		checkTidy(t, []api.Act{lock(n), unlock(n)}, true)
		checkTidy(t, []api.Act{work(n), lock(n), work(n), unlock(n), work(-n)}, true)
		checkTidy(t, []api.Act{lock(n), unlock(n), lock(0), unlock(0)}, true)
		checkTidy(t, []api.Act{lock(n)}, false)
		checkTidy(t, []api.Act{unlock(n)}, false)
		checkTidy(t, []api.Act{try(n)}, false)
		checkTidy(t, []api.Act{lock(n), unlock(0)}, false)
		checkTidy(t, []api.Act{lock(0), unlock(n)}, false)
		checkTidy(t, []api.Act{lock(n), lock(n), unlock(n)}, false)
		checkTidy(t, []api.Act{lock(n), unlock(n), unlock(n)}, false)
		for _, m := range odd {
			checkTidy(t, []api.Act{lock(n), unlock(m)}, n == m)
			checkTidy(t, []api.Act{lock(n), unlock(n), lock(m), unlock(m)}, true)
		}
		if n < 0 || n > 3 {
			none := api.Act{Kind: n, N: 1}
			checkTidy(t, []api.Act{none}, true)
			checkTidy(t, []api.Act{none, lock(1), none, unlock(1), none}, true)
			checkTidy(t, []api.Act{lock(1), none}, false)
			checkTidy(t, []api.Act{none, unlock(1)}, false)
		}
	}
	for _, n := range []int{64, 66, 1000} {
		long := slices.Repeat([]api.Act{lock(2), unlock(2)}, n/2)
		checkTidy(t, long, true)
		checkTidy(t, long[1:], false)
		checkTidy(t, long[:n-1], false)
		checkTidy(t, with(long, n-1, try(2)), false)
	}
}

// tidyOnes is all programs of up to so many acts, and of them those that are tidy, if they have another look.
func tidyOnes(most int) (all, tidy [][]api.Act) {
	all = [][]api.Act{nil}
	from := 0
	for range most {
		end := len(all)
		for _, l := range all[from:end] {
			for _, a := range []api.Act{lock(0), lock(1), unlock(0), unlock(1), try(0), work(0)} {
				all = append(all, append(slices.Clone(l), a))
			}
		}
		from = end
	}
	for _, l := range all {
		if paired(l) {
			tidy = append(tidy, l)
		}
	}
	return all, tidy
}

// TestTidyAll is of P12.1: all programs of up to six acts, of two mutexes, are tidy or not as their pairs say.
func TestTidyAll(t *testing.T) {
	all, tidy := tidyOnes(6)
	for _, l := range all {
		checkTidy(t, l, paired(l))
	}
	if len(tidy) < 50 || len(tidy) > len(all)/50 {
		t.Errorf("%d of %d are tidy", len(tidy), len(all))
	}
}

// TestTidyAgain is of P12.3: two tidy programs, one behind the other, are tidy, and so are three; a tidy one and one that is not are not.
func TestTidyAgain(t *testing.T) {
	all, tidy := tidyOnes(4)
	for _, l := range tidy {
		for _, m := range tidy {
			checkTidy(t, slices.Concat(l, m), true)
			checkTidy(t, slices.Concat(m, l, m), true)
		}
		for _, m := range all {
			checkTidy(t, slices.Concat(l, m), paired(m))
		}
	}
	whole := slices.Repeat([]api.Act{lock(3), unlock(3)}, 32)
	checkTidy(t, slices.Concat(whole, whole), true)
}

// TestUnchanged is of rule R4: no call changes what it was handed, room and all.
func TestUnchanged(t *testing.T) {
	for _, l := range append(mayPrograms(), mayNotPrograms()[:400]...) {
		m := roomyAll(l)
		was := whole(m)
		right := prog.Right(m)
		text, e := prog.Print(m)
		if right != (e == api.OK) || right && text != write(l) {
			t.Fatalf("%v: %t, %q, %d", l, right, text, e)
		}
		for _, acts := range m {
			prog.Tidy(acts)
		}
		if !same(was, whole(m)) {
			t.Fatalf("%v became %v", was, whole(m))
		}
	}
}

// TestShared is of P12.2, and of rules R1 and R4: the programs of an answer are apart from each other, and from those of another answer to the same text.
func TestShared(t *testing.T) {
	text := "lock 0; work 5; unlock 0\n\ntry 3\nlock 0; work 5; unlock 0\n"
	want := [][]api.Act{{lock(0), work(5), unlock(0)}, nil, {try(3)}, {lock(0), work(5), unlock(0)}}
	l, _, _ := prog.Parse(text)
	m, _, _ := prog.Parse(text)
	for i := range l {
		rest := slices.Clone(want)
		rest[i] = nil
		acts := l[i][:cap(l[i])]
		for k := range acts {
			acts[k] = api.Act{Kind: -7, N: -7}
		}
		l[i] = nil
		if !same(l[i:], rest[i:]) || !same(m, want) {
			t.Errorf("%d: %v, %v", i, l, m)
		}
	}
	checkParse(t, text, want, 0, api.OK)
	if a, _ := prog.Print(want); a != text {
		t.Errorf("%q", a)
	}
}
