package lens_test

import (
	"fmt"
	"math"
	"slices"
	"strings"
	"testing"

	"marquetry/api"
	"marquetry/bitin"
	"marquetry/bitout"
	"marquetry/internal/bittext"
	"marquetry/lens"
)

// Numbers of lengths that may not be asked for.
var wrong = []int{math.MinInt, math.MinInt + 1, math.MinInt32, -1 << 32, -4096, -2, -1, 0,
	4097, 4098, 8192, 1 << 16, 1 << 31, 1 << 32, 1<<32 + 1, math.MaxInt - 1, math.MaxInt}

// Bits as they stand, blanks between them aside.
func bare(parts ...string) string {
	return strings.ReplaceAll(strings.Join(parts, ""), " ", "")
}

// Pseudo-random numbers by a fixed rule.
type dice uint32

func (d *dice) below(n int) int {
	*d = *d*1664525 + 1013904223
	return int(uint32(*d)>>8) % n
}

func repeated(length, n int) []int {
	return slices.Repeat([]int{length}, n)
}

// Lengths with 0 behind, n in all.
func filled(n int, list ...int) []int {
	return append(slices.Clone(list), make([]int, n-len(list))...)
}

// n lengths, all 0 but that of one symbol.
func alone(symbol, length, n int) []int {
	list := make([]int, n)
	list[symbol] = length
	return list
}

// Complete lengths of any form, none above most, made by parting a code into two again and again.
func parted(d *dice, steps, most int) []int {
	list := []int{1, 1}
	for range steps {
		at := d.below(len(list))
		switch {
		case d.below(6) == 0:
			list = slices.Insert(list, at, make([]int, d.below(30))...)
		case list[at] > 0 && list[at] < most:
			list[at]++
			list = slices.Insert(list, at+d.below(2), list[at])
		}
	}
	return list
}

func complete(list []int) bool {
	sum, count := 0, 0
	for _, l := range list {
		if l != 0 {
			sum += 1 << 15 >> l
			count++
		}
	}
	return sum == 1<<15 || count == 1
}

// What Read is held against: the chapter's words, bit by bit; it panics with the error.
type model struct {
	bits string
	at   int
	list []int
}

func (m *model) num(n int) int {
	if m.at+n > len(m.bits) {
		panic(api.ErrEnd)
	}
	v := 0
	for i, c := range m.bits[m.at : m.at+n] {
		v += int(c-'0') << i
	}
	m.at += n
	return v
}

func (m *model) must(ok bool) {
	if !ok {
		panic(api.ErrForm)
	}
}

func (m *model) symbol(codes []string) int {
	for have := ""; ; have += bittext.Number(m.num(1), 1) {
		for s, c := range codes {
			if c == have {
				return s
			}
		}
	}
}

func (m *model) simple(n int) {
	two := m.num(1) == 1
	width := []int{1, 8}[m.num(1)]
	told := []int{m.num(width)}
	if two {
		told = append(told, m.num(8))
	}
	m.list = make([]int, n)
	for _, s := range told {
		m.must(s < n && m.list[s] == 0)
		m.list[s] = 1
	}
}

func (m *model) normal(n int) {
	short := make([]int, 19)
	places := strings.Fields("17 18 0 1 2 3 4 5 16 6 7 8 9 10 11 12 13 14 15")
	for _, s := range places[:m.num(4)+4] {
		var symbol int
		fmt.Sscan(s, &symbol)
		short[symbol] = m.num(3)
	}
	m.must(complete(short))
	codes := bittext.Codes(short)
	steps := math.MaxInt
	if m.num(1) == 1 {
		k := m.num(3)
		steps = m.num(2+2*k) + 2
		m.must(steps <= n)
	}
	for last := 8; steps > 0 && len(m.list) < n; steps-- {
		s := m.symbol(codes)
		switch s {
		case 16:
			m.list = append(m.list, repeated(last, 3+m.num(2))...)
		case 17:
			m.list = append(m.list, repeated(0, 3+m.num(3))...)
		case 18:
			m.list = append(m.list, repeated(0, 11+m.num(7))...)
		case 0:
			m.list = append(m.list, 0)
		default:
			m.list, last = append(m.list, s), s
		}
		m.must(len(m.list) <= n)
	}
	m.list = filled(n, m.list...)
	m.must(complete(m.list))
}

// The lengths that the chapter reads of these bits, or the error; and how many bits are not read.
func modelRead(bits string, n int) (list []int, e api.Errno, left int) {
	m := &model{bits: bits}
	defer func() {
		if x, ok := recover().(api.Errno); ok {
			list, e, left = nil, x, 0
		}
	}()
	if m.num(1) == 1 {
		m.simple(n)
	} else {
		m.normal(n)
	}
	return m.list, api.OK, len(bits) - m.at
}

func expectRead(t *testing.T, bits string, n int, want []int, left int) {
	t.Helper()
	r := bittext.Reader(bits)
	got, e := lens.Read(r, n)
	if e != api.OK || !slices.Equal(got, want) {
		t.Errorf("Read(%s, %d) = %v, %d; want %v", bits, n, got, e, want)
	} else if r.Left() != left || r.Over() {
		t.Errorf("behind Read(%s, %d): %d bits, over: %v; want %d", bits, n, r.Left(), r.Over(), left)
	}
}

func expectError(t *testing.T, bits string, n int, want api.Errno) {
	t.Helper()
	r := bittext.Reader(bits)
	if got, e := lens.Read(r, n); e != want || len(got) != 0 {
		t.Errorf("Read(%s, %d) = %v, %d; want %d", bits, n, got, e, want)
	}
	if over := want == api.ErrEnd; r.Over() != over {
		t.Errorf("behind Read(%s, %d): over: %v; want %v", bits, n, r.Over(), over)
	}
}

// What is read of these bits, with some behind them, without, and cut off at each place.
func expectWhole(t *testing.T, bits string, n int, want []int) {
	t.Helper()
	expectRead(t, bits, n, want, 0)
	expectRead(t, bits+"10110", n, want, 5)
	expectRead(t, bits+"0100100", n, want, 7)
	for i := range bits {
		expectError(t, bits[:i], n, api.ErrEnd)
	}
}

// That these bits are refused with ErrForm, whatever stands behind them, and are not yet if cut off.
func expectForm(t *testing.T, bits string, n int) {
	t.Helper()
	for _, behind := range []string{"", "0", "1", strings.Repeat("0", 40), strings.Repeat("1", 40)} {
		expectError(t, bits+behind, n, api.ErrForm)
	}
	for i := range bits {
		expectError(t, bits[:i], n, api.ErrEnd)
	}
}

func expectModel(t *testing.T, bits string, n int) api.Errno {
	t.Helper()
	want, e, left := modelRead(bits, n)
	if e == api.OK {
		expectRead(t, bits, n, want, left)
	} else {
		expectError(t, bits, n, e)
	}
	return e
}

// The head of the normal form with these lengths of the code of lengths, count of them told.
func head(count int, short map[int]int) string {
	bits := "0" + bittext.Number(count-4, 4)
	for _, symbol := range []int{17, 18, 0, 1, 2, 3, 4, 5, 16, 6, 7, 8, 9, 10, 11, 12, 13, 14, 15}[:count] {
		bits += bittext.Number(short[symbol], 3)
	}
	return bits
}

// The same, with no more of them told than it takes.
func tight(short map[int]int) string {
	count := 19
	for count > 4 && strings.HasSuffix(head(count, short), "000") {
		count--
	}
	return head(count, short)
}

// Steps are counted: k, and how many.
func counted(k, steps int) string {
	return "1" + bittext.Number(k, 3) + bittext.Number(steps-2, 2+2*k)
}

func TestTheChaptersExample(t *testing.T) {
	expectWhole(t, bare("1 0 1 10100000"), 6, []int{0, 0, 0, 0, 0, 1})
	expectWhole(t, bare("1 0 1 10100000"), 256, alone(5, 1, 256))
	expectForm(t, bare("1 0 1 10100000"), 5)
}

// P7.1: one symbol told by hand, of 1 bit and of 8 bits.
func TestOneSymbolIsRead(t *testing.T) {
	expectWhole(t, bare("1 0 0 0"), 1, []int{1})
	expectWhole(t, bare("1 0 0 0"), 3, []int{1, 0, 0})
	expectWhole(t, bare("1 0 0 1"), 2, []int{0, 1})
	expectWhole(t, bare("1 0 0 1"), 4096, alone(1, 1, 4096))
	expectWhole(t, bare("1 0 1 00000000"), 1, []int{1})
	expectWhole(t, bare("1 0 1 10000000"), 2, []int{0, 1})
	expectWhole(t, bare("1 0 1 11111111"), 256, alone(255, 1, 256))
	for symbol := range 256 {
		for _, n := range []int{symbol + 1, symbol + 2, 280, 2328, 4096} {
			if n > symbol {
				expectRead(t, "101"+bittext.Number(symbol, 8), n, alone(symbol, 1, n), 0)
			}
		}
	}
}

// P7.1: two symbols told by hand, the first of 1 bit or of 8, in either order.
func TestTwoSymbolsAreRead(t *testing.T) {
	expectWhole(t, bare("1 1 0 0 10000000"), 2, []int{1, 1})
	expectWhole(t, bare("1 1 0 1 00000000"), 2, []int{1, 1})
	expectWhole(t, bare("1 1 0 1 11000000"), 5, []int{0, 1, 0, 1, 0})
	expectWhole(t, bare("1 1 1 01000000 00100000"), 5, []int{0, 0, 1, 0, 1})
	expectWhole(t, bare("1 1 1 00100000 01000000"), 6, []int{0, 0, 1, 0, 1, 0})
	expectWhole(t, bare("1 1 1 00000000 11111111"), 256, append(alone(0, 1, 255), 1))
	expectWhole(t, bare("1 1 1 11111111 10000000"), 257, filled(257, append(alone(1, 1, 255), 1)...))
}

// P7.1: a simple symbol that is not below n.
func TestSimpleSymbolNotBelowN(t *testing.T) {
	expectForm(t, bare("1 0 0 1"), 1)
	for symbol := 1; symbol < 256; symbol++ {
		expectForm(t, "101"+bittext.Number(symbol, 8), symbol)
		expectForm(t, "101"+bittext.Number(symbol, 8), 1)
		expectForm(t, "111"+bittext.Number(0, 8)+bittext.Number(symbol, 8), symbol)
		expectForm(t, "111"+bittext.Number(symbol, 8)+bittext.Number(0, 8), symbol)
		expectForm(t, "1100"+bittext.Number(symbol, 8), symbol)
	}
	expectForm(t, bare("1 1 0 1 00000000"), 1)
	expectForm(t, bare("1 1 0 1 01000000"), 1)
}

// P7.1: twice the same simple symbol.
func TestSimpleSymbolTwice(t *testing.T) {
	for _, n := range []int{2, 40, 256, 280, 4096} {
		expectForm(t, bare("1 1 0 0 00000000"), n)
		expectForm(t, bare("1 1 0 1 10000000"), n)
		expectForm(t, bare("1 1 1 10000000 10000000"), n)
	}
	expectForm(t, bare("1 1 0 0 00000000"), 1)
	for symbol := range 256 {
		expectForm(t, "111"+bittext.Number(symbol, 8)+bittext.Number(symbol, 8), 256)
	}
}

// P7.1: both of two simple symbols are read ahead of what may not be of the first one.
func TestSimpleSymbolsAreBothReadFirst(t *testing.T) {
	first := bare("1 1 1 11111111")
	for i := range 8 {
		expectError(t, first+strings.Repeat("1", i), 5, api.ErrEnd)
	}
	expectError(t, first+"11111111", 5, api.ErrForm)
	expectError(t, first+"00000000", 5, api.ErrForm)
	expectError(t, bare("1 1 0 1 0000000"), 1, api.ErrEnd)
}

// P7.1: lengths told by steps: lengths alone.
func TestLengthsByStepsAreRead(t *testing.T) {
	// Lengths 1 and 2 have codes of one bit: 0 and 1.
	bits := tight(map[int]int{1: 1, 2: 1})
	expectWhole(t, bits+bare("0 1 0 1"), 3, []int{2, 1, 2})
	expectWhole(t, bits+bare("0 0 1 1"), 3, []int{1, 2, 2})
	expectWhole(t, bits+bare("0 0 0"), 2, []int{1, 1})
	expectWhole(t, bits+bare("0 1 1 0"), 3, []int{2, 2, 1})
	// 0, 1, 2, 3: 0, 10, 110, 111.
	bits = tight(map[int]int{0: 1, 1: 2, 2: 3, 3: 3})
	expectWhole(t, bits+bare("0 110 10 111 0 111"), 5, []int{2, 1, 3, 0, 3})
	expectWhole(t, bits+bare("0 0 0 10 0 10 0"), 6, []int{0, 0, 1, 0, 1, 0})
	// One symbol alone told so: its length is as it is told.
	expectWhole(t, bits+bare("0 0 111 0 0"), 4, []int{0, 3, 0, 0})
	expectWhole(t, bits+bare("0 111"), 1, []int{3})
}

// P7.1: steps with a length, 16, 17 and 18 among them.
func TestRepeatedLengthsAreRead(t *testing.T) {
	// 16, 17, 2, 18: 0, 10, 110, 111, each with its bits behind.
	bits := tight(map[int]int{16: 1, 17: 2, 18: 3, 2: 3})
	expectWhole(t, bits+bare("0 110 0 00"), 4, []int{2, 2, 2, 2})
	expectWhole(t, bits+bare("0 110 10 000 0 00"), 7, []int{2, 0, 0, 0, 2, 2, 2})
	expectWhole(t, bits+bare("0 110 10 101 110 110 110"), 12, []int{2, 0, 0, 0, 0, 0, 0, 0, 0, 2, 2, 2})
	expectWhole(t, bits+bare("0 110 10 111 0 00"), 14, append(filled(11, 2), 2, 2, 2))
	expectWhole(t, bits+bare("0 110 111 0000000 0 00"), 15, append(filled(12, 2), 2, 2, 2))
	expectWhole(t, bits+bare("0 110 111 1000000 0 00"), 16, append(filled(13, 2), 2, 2, 2))
	expectWhole(t, bits+bare("0 110 111 1111111 0 00"), 142, append(filled(139, 2), 2, 2, 2))
	expectWhole(t, bits+bare("0 110 0 00 10 000 111 0000000"), 18, filled(18, 2, 2, 2, 2))
	// 16 as often as its bits say: 3: 0, 16: 1.
	bits = tight(map[int]int{3: 1, 16: 1})
	expectWhole(t, bits+bare("0 0 1 00 0 1 00"), 8, repeated(3, 8))
	expectWhole(t, bits+bare("0 0 1 10 0 0 0"), 8, repeated(3, 8))
	expectWhole(t, bits+bare("0 0 1 01 0 0"), 8, repeated(3, 8))
	expectWhole(t, bits+bare("0 0 1 11 0"), 8, repeated(3, 8))
	expectWhole(t, bits+bare("0 0 1 00 1 10"), 8, repeated(3, 8))
}

// P7.1: 16 is the last length that was not 0, also behind 0 of each kind and behind another 16; 8, if there was none.
func TestSixteenIsTheLastLengthThatWasNotZero(t *testing.T) {
	// 0, 3, 16, 17: 00, 01, 10, 11.
	bits := tight(map[int]int{0: 2, 3: 2, 16: 2, 17: 2})
	expectWhole(t, bits+bare("0 01 00 10 10 10 00"), 9, []int{3, 0, 3, 3, 3, 3, 3, 3, 3})
	expectWhole(t, bits+bare("0 01 11 000 10 10 00 10 00"), 12, []int{3, 0, 0, 0, 3, 3, 3, 3, 0, 3, 3, 3})
	// Eights only, of 16 alone: its code is no bits.
	bits = tight(map[int]int{16: 5}) + "0"
	expectWhole(t, bits+strings.Repeat("11", 42)+"10", 256, repeated(8, 256))
	// 0, 16: 0, 1: ahead of any length that was not 0.
	bits = tight(map[int]int{0: 1, 16: 1}) + "0"
	expectWhole(t, bits+"00"+strings.Repeat("111", 42)+"110"+"0", 259, append([]int{0, 0}, filled(257, repeated(8, 256)...)...))
	// 1, 2, 16: 0, 10, 11: a length of its own ends the eights.
	bits = tight(map[int]int{1: 1, 2: 2, 16: 2}) + "0"
	expectForm(t, bits+bare("11 00 0"), 4)
	expectWhole(t, bits+bare("10 11 00"), 4, repeated(2, 4))
	// 1, 8, 16: 128 eights are a half.
	bits = tight(map[int]int{1: 1, 8: 2, 16: 2}) + "0"
	expectWhole(t, bits+strings.Repeat("1111", 21)+"10100", 129, append(repeated(8, 128), 1))
	expectForm(t, bits+"0"+strings.Repeat("1111", 21)+"1010", 129)
}

// P7.1: each symbol of the code of lengths at its place of the order, told with no more places than it takes, and with all.
func TestOrderOfTheCodeOfLengths(t *testing.T) {
	places := []int{17, 18, 0, 1, 2, 3, 4, 5, 16, 6, 7, 8, 9, 10, 11, 12, 13, 14, 15}
	for place, symbol := range places {
		if symbol < 1 || symbol > 12 {
			continue
		}
		// One alone has no bits: the steps are told by n.
		for count := max(4, place+1); count <= 19; count++ {
			for length := 1; length <= 7; length++ {
				bits := head(count, map[int]int{symbol: length}) + "0"
				expectRead(t, bits+"101", 1<<symbol, repeated(symbol, 1<<symbol), 3)
				expectRead(t, bits, 1<<symbol, repeated(symbol, 1<<symbol), 0)
			}
		}
	}
	// Those above 12, behind 1 to 12, and 15 twice: each has 4 bits, in rising order.
	short := map[int]int{}
	for symbol := range 16 {
		short[symbol] = 4
	}
	want, bits := []int{}, head(19, short)+"0"
	for symbol := 1; symbol <= 15; symbol++ {
		want, bits = append(want, symbol), bits+fmt.Sprintf("%04b", symbol)
	}
	expectWhole(t, bits+"1111", 16, append(want, 15))
	expectWhole(t, bits+"11110000", 17, append(want, 15, 0))
	// The same with the places ahead only: of two lengths that are told the last one is at the last place.
	for count := 5; count <= 19; count++ {
		a, b := places[count-2], places[count-1]
		bits := head(count, map[int]int{a: 1, b: 1}) + "0"
		for _, first := range []string{"0", "1"} {
			for n := 1; n < 20; n++ {
				expectModel(t, bits+strings.Repeat(first, 60), n)
			}
		}
	}
}

// P7.1: a code of lengths that is not complete, asked as soon as it is read.
func TestCodeOfLengthsThatIsNotComplete(t *testing.T) {
	for _, short := range []map[int]int{{}, {0: 2, 1: 2}, {0: 1, 1: 1, 2: 1}, {17: 1, 18: 2}, {1: 7, 2: 7},
		{0: 1, 1: 2, 2: 3}, {17: 1, 18: 1, 0: 7}, {0: 2, 1: 2, 2: 2, 3: 2, 4: 7}} {
		for _, n := range []int{1, 2, 5, 4096} {
			expectForm(t, head(8, short), n)
			expectForm(t, head(19, short), n)
		}
	}
	for count := 4; count <= 19; count++ {
		expectForm(t, head(count, nil), 280)
	}
}

// P7.1: as many steps as it takes, and no bit more.
func TestAsManyStepsAsItTakes(t *testing.T) {
	// 0, 12: 0, 1.
	bits := tight(map[int]int{0: 1, 12: 1}) + "0"
	expectRead(t, bits+strings.Repeat("1", 4096), 4096, repeated(12, 4096), 0)
	expectRead(t, bits+strings.Repeat("1", 5000), 4096, repeated(12, 4096), 904)
	expectError(t, bits+strings.Repeat("1", 4095), 4096, api.ErrEnd)
	expectForm(t, bits+"00000", 5)
	expectWhole(t, bits+"00001", 5, []int{0, 0, 0, 0, 12})
	expectWhole(t, bits+"10000", 5, []int{12, 0, 0, 0, 0})
}

// P7.1: so many steps at most: those that end ahead of n leave 0, and those that are more than it takes are not read.
func TestSoManyStepsAtMost(t *testing.T) {
	// 1, 2: 0, 1.
	bits := tight(map[int]int{1: 1, 2: 1})
	for n := 2; n <= 40; n++ {
		expectWhole(t, bits+counted(0, 2)+"00", n, filled(n, 1, 1))
	}
	for n := 3; n <= 40; n++ {
		expectWhole(t, bits+counted(0, 3)+"101", n, filled(n, 2, 1, 2))
		expectWhole(t, bits+counted(3, 3)+"011", n, filled(n, 1, 2, 2))
	}
	// Ahead of the end they are not complete: the steps that end there are no fault, what is not told may be.
	expectForm(t, bits+counted(0, 2)+"10", 3)
	expectForm(t, bits+counted(0, 2)+"11", 9)
	// 4 lengths are there behind two steps of five.
	bits = tight(map[int]int{2: 1, 16: 1})
	expectWhole(t, bits+counted(0, 4)+bare("0 1 00"), 4, repeated(2, 4))
	expectWhole(t, bits+counted(0, 2)+bare("0 1 00"), 4, repeated(2, 4))
	expectWhole(t, bits+counted(0, 2)+bare("0 1 00"), 9, filled(9, 2, 2, 2, 2))
	expectForm(t, bits+counted(0, 4)+bare("0 1 00 0 0"), 9)
	// A step that repeats counts once.
	bits = tight(map[int]int{18: 1, 5: 1}) + counted(0, 3)
	expectWhole(t, bits+bare("1 1111111 0 1 1111111"), 400, alone(138, 5, 400))
	expectForm(t, tight(map[int]int{0: 1, 1: 1})+counted(2, 9)+"000000000", 400)
}

// P7.1: each width of how many steps there are, with the least and the most of it: up to n, and not one more.
func TestHowManyStepsAreTold(t *testing.T) {
	// 12 alone has no bits: 4096 steps tell complete lengths.
	bits := tight(map[int]int{12: 1})
	for k := 5; k <= 7; k++ {
		expectWhole(t, bits+counted(k, 4096), 4096, repeated(12, 4096))
		expectForm(t, bits+counted(k, 4095), 4096)
	}
	for symbol := 1; symbol <= 11; symbol++ {
		bits := tight(map[int]int{symbol: 1})
		for k := range 8 {
			if 1<<symbol-2 >= 1<<(2+2*k) {
				continue
			}
			n := 1 << symbol
			expectWhole(t, bits+counted(k, n), n, repeated(symbol, n))
			for _, behind := range []int{1, 2, 100} {
				expectWhole(t, bits+counted(k, n), n+behind, filled(n+behind, repeated(symbol, n)...))
			}
		}
	}
}

// P7.1: more steps than n told, asked as soon as they are read, though fewer would be enough.
func TestMoreStepsThanNTold(t *testing.T) {
	bits := tight(map[int]int{1: 1, 2: 1})
	for k := range 8 {
		for _, v := range []int{0, 1, 2, 3, 1<<(2+2*k) - 1} {
			for _, n := range []int{1, v - 1, v, v + 1} {
				if n >= 1 && n <= 4096 {
					expectForm(t, bits+counted(k, v+2), n)
				}
			}
		}
	}
	expectForm(t, bits+counted(5, 4097), 4096)
	expectForm(t, bits+counted(7, 4097), 4096)
	expectForm(t, bits+counted(7, 1<<16+1), 4096)
	// Of n 1 no number of steps may be told.
	expectForm(t, bits+counted(0, 2), 1)
	expectWhole(t, bits+"00", 1, []int{1})
	// One symbol alone, of no bits, is no way around it.
	expectForm(t, tight(map[int]int{1: 1})+counted(0, 3), 2)
}

// P7.1: a length repeated beyond n, asked behind its bits.
func TestRepeatedBeyondN(t *testing.T) {
	// 1, 16, 17, 18: 00, 01, 10, 11.
	bits := tight(map[int]int{1: 2, 16: 2, 17: 2, 18: 2}) + "0"
	for more := range 4 {
		expectForm(t, bits+"00"+"01"+bittext.Number(more, 2), 1+3+more-1)
		expectForm(t, bits+"00"+"01"+bittext.Number(more, 2), 2)
	}
	for more := range 8 {
		expectWhole(t, bits+"00"+"10"+bittext.Number(more, 3), 1+3+more, filled(4+more, 1))
		expectForm(t, bits+"00"+"10"+bittext.Number(more, 3), 1+3+more-1)
		expectForm(t, bits+"00"+"10"+bittext.Number(more, 3), 2)
		expectForm(t, bits+"10"+bittext.Number(more, 3), 1)
	}
	for more := range 128 {
		expectWhole(t, bits+"00"+"11"+bittext.Number(more, 7), 1+11+more, filled(12+more, 1))
		expectForm(t, bits+"00"+"11"+bittext.Number(more, 7), 1+11+more-1)
		expectForm(t, bits+"11"+bittext.Number(more, 7), 1)
	}
	expectForm(t, bits+"0000"+"1000"+"0", 4)
	// Eights: 256 of them, to n and one beyond it.
	bits = tight(map[int]int{16: 1}) + "0" + strings.Repeat("11", 42)
	expectWhole(t, bits+"10", 256, repeated(8, 256))
	expectForm(t, bits+"01", 256)
	expectForm(t, bits+"10", 255)
	// As many steps as were told are no way beyond n.
	bits = tight(map[int]int{1: 1, 17: 1}) + counted(0, 3)
	expectWhole(t, bits+"0"+"0"+"1101", 10, filled(10, 1, 1))
	expectForm(t, bits+"0"+"0"+"1101", 9)
	expectWhole(t, tight(map[int]int{1: 1, 17: 1})+counted(0, 2)+"00", 9, filled(9, 1, 1))
}

// P7.1: at the end lengths that are not complete.
func TestLengthsThatAreNotCompleteAtTheEnd(t *testing.T) {
	// 0, 1, 2, 3: 00, 01, 10, 11.
	short := map[int]int{0: 2, 1: 2, 2: 2, 3: 2}
	var walk func(list []int, bits string)
	walk = func(list []int, bits string) {
		if n := len(list); n > 0 {
			if all := head(6, short) + "0" + bits; complete(list) {
				expectWhole(t, all, n, list)
			} else {
				expectForm(t, all, n)
			}
		}
		if len(list) == 4 {
			return
		}
		for l := range 4 {
			walk(append(slices.Clone(list), l), bits+fmt.Sprintf("%02b", l))
		}
	}
	walk(nil, "")
	// Of 0 alone no bits tell: all lengths are 0.
	expectForm(t, tight(map[int]int{0: 3})+"0", 280)
	expectForm(t, tight(map[int]int{18: 1})+"0"+"0000000", 11)
	expectForm(t, tight(map[int]int{17: 1})+"0"+"111"+"000", 13)
}

// P7.1: n that may not be; nothing is read then.
func TestWrongN(t *testing.T) {
	for _, n := range wrong {
		for _, bits := range []string{"", "1", "1000", "1111111111111111111", "0000000", tight(map[int]int{1: 1}) + "0"} {
			r := bittext.Reader(bits)
			if got, e := lens.Read(r, n); e != api.ErrArg || len(got) != 0 || r.Left() != len(bits) || r.Over() {
				t.Errorf("Read(%s, %d) = %v, %d; %d bits left", bits, n, got, e, r.Left())
			}
		}
		for _, r := range []*bitin.Reader{nil, new(bitin.Reader), bittext.OverReader()} {
			if got, e := lens.Read(r, n); e != api.ErrArg || len(got) != 0 {
				t.Errorf("Read(%v, %d) = %v, %d", r, n, got, e)
			}
		}
	}
}

// P7.1: no bits, of each n.
func TestNoBits(t *testing.T) {
	for _, n := range []int{1, 2, 40, 256, 280, 4095, 4096} {
		for _, r := range []*bitin.Reader{nil, new(bitin.Reader), bitin.New(nil), bittext.OverReader()} {
			if got, e := lens.Read(r, n); e != api.ErrEnd || len(got) != 0 || !r.Over() {
				t.Errorf("Read(%v, %d) = %v, %d", r, n, got, e)
			}
		}
	}
}

// P7.1: all bits of up to 15, held against the model.
func TestAllShortBits(t *testing.T) {
	for size := range 16 {
		for v := range 1 << size {
			for _, n := range []int{1, 2, 4} {
				expectModel(t, bittext.Number(v, size), n)
			}
		}
	}
}

// P7.1: bits of any kind behind codes of lengths of many forms, held against the model.
func TestAnyBits(t *testing.T) {
	var met [10]int
	d := dice(1)
	for range 20000 {
		short := map[int]int{}
		list := parted(&d, d.below(12), api.MaxShort)
		for _, length := range list {
			short[d.below(19)] = length
		}
		bits := head(4+d.below(16), short)
		if d.below(3) == 0 {
			bits += counted(0, 2+d.below(4))
		} else {
			bits += bittext.Number(d.below(2), 1)
		}
		for range d.below(200) {
			bits += bittext.Number(d.below(2), 1)
		}
		met[expectModel(t, bits, 1+d.below(20))]++
	}
	if met[api.OK] < 20 || met[api.ErrEnd] < 100 || met[api.ErrForm] < 100 {
		t.Errorf("too few of a kind: %v", met)
	}
}

// P7.1: written bits, of which one is another, or the last ones are not there, held against the model.
func TestSpoiltBits(t *testing.T) {
	var met [10]int
	d := dice(2)
	for i := range 150 {
		list := parted(&d, i, api.MaxLen)
		w := bittext.Writer("")
		if len(list) > 4096 || !lens.Write(w, list) {
			t.Fatalf("Write(%v)", list)
		}
		bits := bittext.Of(w)
		for at := range bits {
			other := []byte(bits)
			other[at] ^= 1
			met[expectModel(t, string(other), len(list))]++
			expectError(t, bits[:at], len(list), api.ErrEnd)
		}
		for _, n := range []int{1, len(list) - 1, len(list) + 1, len(list) + 3} {
			met[expectModel(t, bits, n)]++
		}
	}
	if met[api.OK] < 20 || met[api.ErrEnd] < 100 || met[api.ErrForm] < 100 {
		t.Errorf("too few of a kind: %v", met)
	}
}

// Lists that were read share no memory, and what is read stays as it is.
func TestAnswersAreNewMemory(t *testing.T) {
	for _, bits := range []string{bare("1 1 0 0 10000000"), tight(map[int]int{1: 1}) + "0"} {
		first, _ := lens.Read(bittext.Reader(bits), 2)
		second, _ := lens.Read(bittext.Reader(bits), 2)
		first = first[:cap(first)]
		for i := range first {
			first[i] = 9
		}
		if !slices.Equal(second, []int{1, 1}) {
			t.Errorf("two answers share memory: %v", second)
		}
		expectRead(t, bits, 2, []int{1, 1}, 0)
	}
}

// What is written is read as want, by the model too, behind other bits and ahead of others, and to the last of its bits.
func expectWritten(t *testing.T, list, want []int) {
	t.Helper()
	w := bittext.Writer("1011001")
	if !lens.Write(w, list) {
		t.Errorf("Write(%v) was refused", list)
		return
	}
	all := bittext.Of(w)
	if !strings.HasPrefix(all, "1011001") {
		t.Errorf("Write(%v) changed the bits ahead: %s", list, all)
	}
	bits := all[7:]
	expectRead(t, bits, len(list), want, 0)
	expectRead(t, bits+"100", len(list), want, 3)
	if got, e, left := modelRead(bits, len(list)); e != api.OK || left != 0 || !slices.Equal(got, want) {
		t.Errorf("the chapter reads %s, written of %v, as %v, %d, %d bits left", bits, list, got, e, left)
	}
}

func expectRefused(t *testing.T, list []int) {
	t.Helper()
	for _, bits := range []string{"", "1", "1011001", "10110010"} {
		w := bittext.Writer(bits)
		if lens.Write(w, list) {
			t.Errorf("Write of %d lengths, %v.., was taken", len(list), list[:min(20, len(list))])
		}
		if bittext.Of(w) != bits {
			t.Errorf("Write of %d lengths was refused, but put %s", len(list), bittext.Of(w))
		}
	}
}

// P7.2: each list of up to six lengths from 0 to 4: read as it was, or refused.
func TestEachShortListIsWritten(t *testing.T) {
	var walk func(list []int)
	walk = func(list []int) {
		count, last := 0, 0
		for s, l := range list {
			if l != 0 {
				count, last = count+1, s
			}
		}
		switch {
		case len(list) == 0:
			expectRefused(t, list)
		case count <= 1:
			expectWritten(t, list, alone(last, 1, len(list)))
		case complete(list):
			expectWritten(t, list, list)
		default:
			expectRefused(t, list)
		}
		if len(list) == 6 {
			return
		}
		for l := range 5 {
			walk(append(slices.Clone(list), l))
		}
	}
	walk(nil)
}

// P7.2: complete lengths of many forms.
func TestManyFormsAreWritten(t *testing.T) {
	d := dice(3)
	for i := range 400 {
		list := parted(&d, i, 2+d.below(api.MaxLen-1))
		expectWritten(t, list, list)
	}
	for length := 1; length <= 12; length++ {
		for _, n := range []int{0, 1, 2, 3, 10, 11, 12, 139, 1000} {
			if list := filled(1<<length+n, repeated(length, 1<<length)...); len(list) <= 4096 {
				expectWritten(t, list, list)
				slices.Reverse(list)
				expectWritten(t, list, list)
			}
		}
	}
	// Each length there is, the longest twice.
	stairs := []int{1, 2, 3, 4, 5, 6, 7, 8, 9, 10, 11, 12, 13, 14, 15, 15}
	expectWritten(t, stairs, stairs)
	slices.Reverse(stairs)
	expectWritten(t, stairs, stairs)
}

// P7.2: two symbols of length 1 at all kinds of places: below 2, below 256 and above.
func TestTwoSymbolsAreWritten(t *testing.T) {
	places := []int{0, 1, 2, 3, 127, 128, 254, 255, 256, 257, 279, 280, 511, 512, 2327, 4094, 4095}
	for i, a := range places {
		for _, b := range places[i+1:] {
			for _, n := range []int{b + 1, b + 2, 4096} {
				if n <= 4096 {
					list := alone(a, 1, n)
					list[b] = 1
					expectWritten(t, list, list)
				}
			}
		}
	}
}

// P7.2: runs of 0 and of one length, of each number up to what one step and two may tell.
func TestRunsAreWritten(t *testing.T) {
	for n := range 300 {
		ahead := append(make([]int, n), 2, 1, 2)
		expectWritten(t, ahead, ahead)
		between := append(append([]int{2, 1}, make([]int, n)...), 2)
		expectWritten(t, between, between)
		behind := filled(3+n, 2, 1, 2)
		expectWritten(t, behind, behind)
	}
	// 9 as often as n says, and shorter ones that make it whole.
	for n := 2; n <= 60; n += 2 {
		list, rest := repeated(9, n), 512-n
		for l := 1; l <= 9; l++ {
			if rest&(512>>l) != 0 {
				list = append(list, l)
			}
		}
		expectWritten(t, list, list)
		slices.Reverse(list)
		expectWritten(t, list, list)
		list = slices.Insert(list, len(list)-1, 0, 0, 0, 0)
		expectWritten(t, list, list)
	}
	// Eights ahead of any other, behind another, and with 0 ahead.
	for _, first := range [][]int{nil, {0}, {0, 0, 0, 0}, {1}, {0, 1}, {1, 0, 0, 0}} {
		n := 256
		if slices.Contains(first, 1) {
			n = 128
		}
		list := append(slices.Clone(first), repeated(8, n)...)
		expectWritten(t, list, list)
	}
}

// P7.2: lens all 0: the first symbol alone with length 1.
func TestAllZeroIsWritten(t *testing.T) {
	for _, n := range []int{1, 2, 3, 40, 255, 256, 257, 280, 2328, 4095, 4096} {
		expectWritten(t, make([]int, n), alone(0, 1, n))
	}
}

// P7.2: one alone, whatever its length is: its length as 1.
func TestOneAloneIsWritten(t *testing.T) {
	for length := 1; length <= api.MaxLen; length++ {
		for _, n := range []int{1, 2, 3, 40, 256, 257, 280, 4096} {
			for _, symbol := range []int{0, 1, 2, 3, 39, 100, 255, 256, 257, 279, 1000, 4094, 4095} {
				if symbol < n {
					expectWritten(t, alone(symbol, length, n), alone(symbol, 1, n))
				}
			}
		}
	}
}

// P7.2: lens that are not complete.
func TestLensThatAreNotCompleteAreRefused(t *testing.T) {
	for _, list := range [][]int{{1, 2}, {2, 2}, {1, 1, 1}, {15, 15}, {1, 1, 15}, {2, 2, 2}, {1, 2, 2, 3}, {0, 1, 0, 3, 3},
		repeated(8, 255), repeated(8, 257), repeated(12, 4095), repeated(1, 4096), filled(280, 3, 3, 3)} {
		expectRefused(t, list)
	}
	for _, length := range []int{math.MinInt, -1 << 32, -16, -1, 16, 17, 18, 19, 32, 64, 255, 256, 1 << 32, math.MaxInt} {
		expectRefused(t, []int{length})
		expectRefused(t, []int{0, length, 0})
		expectRefused(t, []int{2, 1, 2, length})
		expectRefused(t, []int{length, 1, 1})
		expectRefused(t, []int{length, length})
	}
}

// P7.2: none, or more than 4096; also if they are all 0 or complete.
func TestNoneOrTooManyAreRefused(t *testing.T) {
	expectRefused(t, nil)
	expectRefused(t, []int{})
	expectRefused(t, []int{1, 1}[:0])
	for _, n := range []int{4097, 4098, 8192, 1 << 16} {
		expectRefused(t, make([]int, n))
		expectRefused(t, alone(0, 1, n))
		expectRefused(t, filled(n, 1, 1))
		expectRefused(t, filled(n, 2, 1, 2))
	}
	expectRefused(t, repeated(13, 8192))
	expectWritten(t, filled(4096, 2, 1, 2), filled(4096, 2, 1, 2))
	expectWritten(t, repeated(12, 4096), repeated(12, 4096))
}

func TestNilAndZeroWriters(t *testing.T) {
	for _, list := range [][]int{nil, {0}, {1}, {1, 1}, {2, 1, 2}, {1, 1, 1}, alone(300, 1, 400)} {
		if lens.Write(nil, list) {
			t.Errorf("Write(nil, %v) was taken", list)
		}
	}
	var zero bitout.Writer
	if !lens.Write(&zero, []int{2, 1, 2}) {
		t.Error("a zero Writer was refused")
	}
	expectRead(t, bittext.Of(&zero), 3, []int{2, 1, 2}, 0)
}

func TestLensAreNotChanged(t *testing.T) {
	for _, list := range [][]int{{0}, {0, 0, 0}, {7}, {0, 7, 0}, {1, 1}, {2, 1, 2}, {1, 1, 1}, {16}, alone(300, 9, 400), filled(300, 2, 1, 2)} {
		room := append(slices.Clone(list), 7, 8, 9)
		was := slices.Clone(room)
		lens.Write(bittext.Writer(""), room[:len(list)])
		if !slices.Equal(room, was) {
			t.Errorf("%v became %v", was, room)
		}
	}
}

// Lists one behind the other are read one behind the other, and are the same bits whenever they are written.
func TestOneBehindTheOther(t *testing.T) {
	var lists [][]int
	d := dice(4)
	for i := range 60 {
		lists = append(lists, parted(&d, i*3, api.MaxLen), alone(i*5, 1, 300), []int{1, 1})
	}
	w, again := bittext.Writer(""), bittext.Writer("")
	for _, list := range lists {
		if !lens.Write(w, list) || lens.Write(w, []int{1, 1, 1}) {
			t.Fatalf("Write(%v)", list)
		}
		lens.Write(again, list)
	}
	if bittext.Of(w) != bittext.Of(again) {
		t.Error("the same lists are other bits")
	}
	r := bittext.Reader(bittext.Of(w))
	for _, list := range lists {
		if got, e := lens.Read(r, len(list)); e != api.OK || !slices.Equal(got, list) {
			t.Fatalf("Read = %v, %d; want %v", got, e, list)
		}
	}
	if r.Left() != 0 || r.Over() {
		t.Errorf("%d bits left", r.Left())
	}
}
