package flags_test

import (
	"math"
	"math/big"
	"regexp"
	"strconv"
	"strings"
	"testing"

	"deadbolt/api"
	"deadbolt/flags"
)

const (
	mostWord    = 1<<31 - 1
	mostWaiters = 1<<28 - 1
	leastInt    = math.MinInt
	mostInt     = math.MaxInt
)

// words are the first ones, the last ones, and those around each power of 2.
func words() []int {
	l := []int{mostWord, 0x55555555, 0x2AAAAAAA, 1234567890}
	for w := range 200 {
		l = append(l, w, mostWord-w)
	}
	for n := 8; n < 31; n++ {
		for w := 1<<n - 9; w <= 1<<n+9; w++ {
			l = append(l, w)
		}
	}
	return l
}

// noWords are the first numbers on either side that are none, and those that would be, were their high bits left out.
func noWords() []int {
	return []int{-1, -2, -7, -8, -9, -29, 1 << 31, 1<<31 + 1, 1<<31 + 29, 1<<32 - 1, 1 << 32, 1<<32 + 29, 1 << 62, -1 << 31, -1<<31 + 29, -1 << 32, leastInt, leastInt + 1, leastInt + 29, mostInt - 1, mostInt}
}

// waiters are numbers of those who wait that may be.
func waiters() []int {
	return []int{0, 1, 2, 3, 7, 8, 9, 10, 99, 100, 1 << 27, 123456789, mostWaiters - 1, mostWaiters}
}

// noWaiters are those that may not be: the first on either side, and those that eight times over go round to what may be.
func noWaiters() []int {
	return []int{-1, -2, -8, -mostWaiters, -1 << 28, mostWaiters + 1, mostWaiters + 2, 1 << 29, 1 << 31, 1<<32 + 3, 1<<60 + 3, 1 << 61, 1<<61 + 3, 1 << 62, -1 << 61, -1<<61 + 3, leastInt, leastInt + 1, leastInt + 3, mostInt - 1, mostInt}
}

// eight are the flags of so many who wait, in the order of their bits.
func eight(waiters int) []api.Flags {
	return []api.Flags{
		{Locked: false, Woken: false, Starving: false, Waiters: waiters},
		{Locked: true, Woken: false, Starving: false, Waiters: waiters},
		{Locked: false, Woken: true, Starving: false, Waiters: waiters},
		{Locked: true, Woken: true, Starving: false, Waiters: waiters},
		{Locked: false, Woken: false, Starving: true, Waiters: waiters},
		{Locked: true, Woken: false, Starving: true, Waiters: waiters},
		{Locked: false, Woken: true, Starving: true, Waiters: waiters},
		{Locked: true, Woken: true, Starving: true, Waiters: waiters},
	}
}

// heads are the letters of texts, in the order of their bits.
func heads() []string {
	return []string{"---", "L--", "-W-", "LW-", "--S", "L-S", "-WS", "LWS"}
}

// flagsOf and textOf work out by division and from lists what the chapter says of a word.
func flagsOf(w int) api.Flags { return eight(w / 8)[w%8] }

func textOf(w int) string { return heads()[w%8] + strconv.Itoa(w/8) }

// shape is the one that the chapter gives to texts, but for how great their numbers may be.
var shape = regexp.MustCompile(`\A([L-])([W-])([S-])(0|[1-9][0-9]*)\z`)

// read works out which word a text is of, if any.
func read(text string) (int, bool) {
	m := shape.FindStringSubmatch(text)
	if m == nil {
		return 0, false
	}
	n, _ := new(big.Int).SetString(m[4], 10)
	if n.Cmp(big.NewInt(mostWaiters)) > 0 {
		return 0, false
	}
	w := 8 * int(n.Int64())
	for i, b := range []int{1, 2, 4} {
		if m[1+i] != "-" {
			w += b
		}
	}
	return w, true
}

// TestPack is of P3.1: each of the eight flags, with nobody who waits, one, some, and as many as may be.
func TestPack(t *testing.T) {
	for _, n := range waiters() {
		for b, f := range eight(n) {
			if w, e := flags.Pack(f); w != 8*n+b || e != api.OK {
				t.Errorf("Pack(%v) = %d, %d", f, w, e)
			}
		}
	}
}

// TestPackBits is of P3.1: the bits are those that package api names.
func TestPackBits(t *testing.T) {
	for i, x := range []struct {
		f    api.Flags
		want int
	}{
		{api.Flags{}, 0}, {api.Flags{Locked: true}, api.Locked}, {api.Flags{Woken: true}, api.Woken}, {api.Flags{Starving: true}, api.Starving},
		{api.Flags{Waiters: 1}, api.One}, {api.Flags{Waiters: api.MaxWaiters}, api.MaxWaiters * api.One},
		{api.Flags{Locked: true, Starving: true, Waiters: 3}, 29}, {api.Flags{Locked: true, Woken: true, Starving: true}, 7},
		{api.Flags{Locked: true, Woken: true, Starving: true, Waiters: api.MaxWaiters}, mostWord},
	} {
		if w, e := flags.Pack(x.f); w != x.want || e != api.OK {
			t.Errorf("%d: Pack(%v) = %d, %d", i, x.f, w, e)
		}
	}
}

// TestPackOfWhatMayNotBe is of P3.1 and P1: fewer than nobody and more than may be, whatever the other flags.
func TestPackOfWhatMayNotBe(t *testing.T) {
	for _, n := range noWaiters() {
		for _, f := range eight(n) {
			if w, e := flags.Pack(f); w != 0 || e != api.ErrArg {
				t.Errorf("Pack(%v) = %d, %d", f, w, e)
			}
		}
	}
}

// TestUnpack is of P3.1: the first words, the last ones, and those between.
func TestUnpack(t *testing.T) {
	for _, w := range words() {
		if f, e := flags.Unpack(w); f != flagsOf(w) || e != api.OK {
			t.Errorf("Unpack(%d) = %v, %d", w, f, e)
		}
	}
}

// TestText is of P3.2: three letters, and a number without a 0 ahead.
func TestText(t *testing.T) {
	for _, w := range words() {
		if s, e := flags.Text(w); s != textOf(w) || e != api.OK {
			t.Errorf("Text(%d) = %q, %d", w, s, e)
		}
	}
}

// TestTextAtEdges is of P3.2: the texts of words that the chapter names, and of their neighbours, written out.
func TestTextAtEdges(t *testing.T) {
	for w, want := range map[int]string{
		0: "---0", 1: "L--0", 2: "-W-0", 3: "LW-0", 4: "--S0", 5: "L-S0", 6: "-WS0", 7: "LWS0", 8: "---1", 9: "L--1", 29: "L-S3",
		79: "LWS9", 80: "---10", 800: "---100", 807: "LWS100", mostWord - 7: "---268435455", mostWord - 8: "LWS268435454", mostWord: "LWS268435455",
	} {
		if s, e := flags.Text(w); s != want || e != api.OK {
			t.Errorf("Text(%d) = %q, %d", w, s, e)
		}
		if got, e := flags.Parse(want); got != w || e != api.OK {
			t.Errorf("Parse(%q) = %d, %d", want, got, e)
		}
	}
}

// TestNoWord is of P3.1, P3.2 and P1: what is no word is told ahead of a sum that is too much, and nothing is told beside it.
func TestNoWord(t *testing.T) {
	for _, w := range noWords() {
		if f, e := flags.Unpack(w); f != (api.Flags{}) || e != api.ErrArg {
			t.Errorf("Unpack(%d) = %v, %d", w, f, e)
		}
		if s, e := flags.Text(w); s != "" || e != api.ErrArg {
			t.Errorf("Text(%d) = %q, %d", w, s, e)
		}
		for _, d := range append(waiters(), noWaiters()...) {
			if n, e := flags.Waits(w, d); n != 0 || e != api.ErrArg {
				t.Errorf("Waits(%d, %d) = %d, %d", w, d, n, e)
			}
		}
	}
}

// TestParse is of P3.2: the text of each word is read as that word.
func TestParse(t *testing.T) {
	for _, w := range words() {
		if got, e := flags.Parse(textOf(w)); got != w || e != api.OK {
			t.Errorf("Parse(%q) = %d, %d", textOf(w), got, e)
		}
	}
}

// wrongTexts are those of no word, each wrong in one way or in several.
func wrongTexts() []string {
	return []string{
		"", "L", "LW", "LWS", "---", "L--", "-", "--", "0", "00", "0000", "1234", "29", "W0", "LW0", "-S0", "L0",
		"l--0", "-w-0", "--s0", "lws0", "X--0", "-X-0", "--X0", "+--0", "--+0", "___0", "0--0", "L-S3L", "\x00--0", "\xcc--0", "−--0",
		"WL-0", "SWL0", "WLS0", "LSW0", "SLW0", "-L-0", "--L0", "W--0", "--W0", "S--0", "-S-0", "LL-0", "LLL0", "WWW0", "SSS0",
		"---00", "---01", "---000", "LWS03", "L-S003", "---0268435455", "LWS0000000000000000000000001",
		"----1", "---+1", "---+0", "----0", "L-S-3", "LWS+3", "LWS--3", "LWS−3", "LWS+268435455", "LWS-268435455",
		" L-S3", "L-S3 ", "L-S 3", "L -S3", "L-S3 4", "L-S\t3", "L-S3\n", "\nL-S3", "L-S\n3", "L-S3\r\n", "    ", "--- ", "L-S3\x00", "\x00L-S3",
		"---a", "---A", "---x1", "---0x1", "---0b1", "---0o7", "---1_0", "---1,0", "---1.0", "---1e3", "---1.", "---.1", "---٣", "---３", "---/", "---:", "---\xff", "---1\xff", "---\xb3",
		"---268435456", "LWS268435456", "LWS268435460", "LWS300000000", "LWS999999999", "LWS1000000000", "---2684354550", "---2147483648", "---4294967296", "---4294967299",
		"---9223372036854775807", "---9223372036854775808", "---2305843009213693952", "---18446744073709551616", "---18446744073709551619", "LWS99999999999999999999", "---" + strings.Repeat("9", 1000), "---" + strings.Repeat("0", 1000),
	}
}

// TestParseOfNoText is of P3.2 and P1: texts of no word, and nothing told beside the error.
func TestParseOfNoText(t *testing.T) {
	for _, s := range wrongTexts() {
		if w, e := flags.Parse(s); w != 0 || e != api.ErrChar {
			t.Errorf("Parse(%q) = %d, %d", s, w, e)
		}
	}
}

// checkParse holds Parse against the shape of texts.
func checkParse(t *testing.T, s string) {
	t.Helper()
	want, is := read(s)
	why := api.OK
	if !is {
		why = api.ErrChar
	}
	if w, e := flags.Parse(s); w != want || e != why {
		t.Errorf("Parse(%q) = %d, %d, not %d, %d", s, w, e, want, why)
	}
}

// TestParseOfTextsBesideTexts is of P3.2: texts of words with a byte changed, put in or left out, whichever byte it is.
func TestParseOfTextsBesideTexts(t *testing.T) {
	for _, w := range []int{0, 7, 8, 29, 80, 803, mostWord - 7, mostWord} {
		s := textOf(w)
		for at := range len(s) {
			checkParse(t, s[:at]+s[at+1:])
		}
		for b := range 256 {
			one := string([]byte{byte(b)})
			for at := range len(s) {
				checkParse(t, s[:at]+one+s[at+1:])
				checkParse(t, s[:at]+one+s[at:])
			}
			checkParse(t, s+one)
		}
	}
}

// TestParseOfShortTexts is of P3.2: all texts of at most five of the bytes that might stand in one.
func TestParseOfShortTexts(t *testing.T) {
	texts := []string{""}
	for range 5 {
		var longer []string
		for _, s := range texts {
			checkParse(t, s)
			for _, b := range "LWS-+019 " {
				longer = append(longer, s+string(b))
			}
		}
		texts = longer
	}
	for _, s := range texts {
		checkParse(t, s)
	}
}

// TestWaitsAtEdges is of P3.2: sums at both ends, and just beyond them.
func TestWaitsAtEdges(t *testing.T) {
	for i, x := range []struct {
		w, d, want int
		why        api.Errno
	}{
		{29, 2, 45, api.OK}, {29, 0, 29, api.OK}, {29, -3, 5, api.OK}, {29, -4, 0, api.ErrOver}, {29, mostWaiters - 3, mostWord - 2, api.OK}, {29, mostWaiters - 2, 0, api.ErrOver},
		{0, 0, 0, api.OK}, {0, -1, 0, api.ErrOver}, {0, 1, 8, api.OK}, {0, mostWaiters, mostWord - 7, api.OK}, {0, mostWaiters + 1, 0, api.ErrOver},
		{7, 0, 7, api.OK}, {7, -1, 0, api.ErrOver}, {7, 1, 15, api.OK}, {7, mostWaiters, mostWord, api.OK}, {7, mostWaiters + 1, 0, api.ErrOver},
		{8, -1, 0, api.OK}, {8, -2, 0, api.ErrOver}, {8, mostWaiters - 1, mostWord - 7, api.OK}, {8, mostWaiters, 0, api.ErrOver},
		{mostWord, 0, mostWord, api.OK}, {mostWord, 1, 0, api.ErrOver}, {mostWord, -1, mostWord - 8, api.OK}, {mostWord, -mostWaiters, 7, api.OK}, {mostWord, -mostWaiters - 1, 0, api.ErrOver},
		{0, leastInt, 0, api.ErrOver}, {0, mostInt, 0, api.ErrOver}, {8, mostInt, 0, api.ErrOver}, {mostWord, mostInt, 0, api.ErrOver}, {mostWord, leastInt, 0, api.ErrOver},
		{0, 1 << 61, 0, api.ErrOver}, {29, 1 << 61, 0, api.ErrOver}, {29, -1 << 61, 0, api.ErrOver}, {29, 1 << 28, 0, api.ErrOver}, {29, -1 << 28, 0, api.ErrOver},
	} {
		if w, e := flags.Waits(x.w, x.d); w != x.want || e != x.why {
			t.Errorf("%d: Waits(%d, %d) = %d, %d", i, x.w, x.d, w, e)
		}
	}
}

// checkWaits holds Waits against the sum worked out without bounds.
func checkWaits(t *testing.T, w, d int) {
	t.Helper()
	sum := new(big.Int).Add(big.NewInt(int64(w/8)), big.NewInt(int64(d)))
	want, why := 0, api.ErrOver
	if sum.Sign() >= 0 && sum.Cmp(big.NewInt(mostWaiters)) <= 0 {
		want, why = 8*int(sum.Int64())+w%8, api.OK
	}
	if got, e := flags.Waits(w, d); got != want || e != why {
		t.Errorf("Waits(%d, %d) = %d, %d, not %d, %d", w, d, got, e, want, why)
	}
}

// TestWaits is of P3.2: many words, with some more who wait, some fewer, and up to both ends and beyond.
func TestWaits(t *testing.T) {
	for _, w := range words() {
		for _, d := range append(waiters(), noWaiters()...) {
			checkWaits(t, w, d)
			if d != leastInt {
				checkWaits(t, w, -d)
			}
		}
		for _, near := range []int{-1, 0, 1} {
			checkWaits(t, w, near-w/8)
			checkWaits(t, w, mostWaiters+near-w/8)
		}
	}
}

// TestUnpackedAsItWas is of P3.3: flags that are packed, and words that are unpacked, come back.
func TestUnpackedAsItWas(t *testing.T) {
	for _, n := range waiters() {
		for _, f := range eight(n) {
			w, _ := flags.Pack(f)
			if back, e := flags.Unpack(w); back != f || e != api.OK {
				t.Errorf("%v is packed as %d, and unpacked as %v, %d", f, w, back, e)
			}
		}
	}
	for _, w := range words() {
		f, _ := flags.Unpack(w)
		if back, e := flags.Pack(f); back != w || e != api.OK {
			t.Errorf("%d is unpacked as %v, and packed as %d, %d", w, f, back, e)
		}
	}
}

// TestReadAsItWasWritten is of P3.3: texts are read as the words that they are of, and no two words have one text.
func TestReadAsItWasWritten(t *testing.T) {
	of := map[string]int{}
	for _, w := range words() {
		s, _ := flags.Text(w)
		if back, e := flags.Parse(s); back != w || e != api.OK {
			t.Errorf("%d is written %q, and read as %d, %d", w, s, back, e)
		}
		if other, is := of[s]; is && other != w {
			t.Errorf("%d and %d are both written %q", w, other, s)
		}
		of[s] = w
	}
}

// TestWaitsChangesNoBit is of P3.3: the three flags stay, who is added and taken off again leaves the word as it was, and it makes no difference whether they come as one.
func TestWaitsChangesNoBit(t *testing.T) {
	for _, w := range words() {
		before, _ := flags.Unpack(w)
		for _, d := range []int{-100, -3, -1, 0, 1, 2, 1000, 1 << 27, -1 << 27} {
			more, e := flags.Waits(w, d)
			if e != api.OK {
				continue // it is beyond an end, which TestWaits is of
			}
			after, _ := flags.Unpack(more)
			after.Waiters -= d
			if after != before {
				t.Errorf("Waits(%d, %d) = %d: %v, with as many as before", w, d, more, after)
			}
			if back, e := flags.Waits(more, -d); back != w || e != api.OK {
				t.Errorf("%d and %d more, and fewer again: %d, %d", w, d, back, e)
			}
			half, _ := flags.Waits(w, d/2)
			if both, e := flags.Waits(half, d-d/2); both != more || e != api.OK {
				t.Errorf("%d and %d more, in two parts: %d, %d", w, d, both, e)
			}
		}
	}
}
