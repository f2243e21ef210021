package value_test

import (
	"math"
	"testing"

	"marquetry/api"
	"marquetry/value"
)

const most = 1 << 20

// Numbers that have no symbol.
var wrongNumbers = []int{math.MinInt, math.MinInt + 1, math.MinInt + 5, math.MinInt32, -1 << 32, 1 - 1<<32, 5 - 1<<32, -most - 1, -most, -5, -4, -2, -1, 0,
	most + 1, most + 2, most + 5, 2 * most, 1 << 31, 1<<31 + 5, 1 << 32, 1<<32 + 1, 1<<32 + 5, math.MaxInt - 1, math.MaxInt}

// Symbols that are none; some would be one, if they were cut off.
var wrongSymbols = []int{math.MinInt, math.MinInt + 1, math.MinInt + 4, math.MinInt32, -1 << 32, 4 - 1<<32, -256, -40, -39, -5, -4, -3, -2, -1,
	40, 41, 42, 63, 64, 65, 128, 255, 256, 257, 260, 1 << 31, 1 << 32, 1<<32 + 4, math.MaxInt - 1, math.MaxInt}

// Each symbol's bits, its first number and its last one, told by hand.
var spans = []struct{ bits, first, last int }{
	{0, 1, 1}, {0, 2, 2}, {0, 3, 3}, {0, 4, 4},
	{1, 5, 6}, {1, 7, 8},
	{2, 9, 12}, {2, 13, 16},
	{3, 17, 24}, {3, 25, 32},
	{4, 33, 48}, {4, 49, 64},
	{5, 65, 96}, {5, 97, 128},
	{6, 129, 192}, {6, 193, 256},
	{7, 257, 384}, {7, 385, 512},
	{8, 513, 768}, {8, 769, 1024},
	{9, 1025, 1536}, {9, 1537, 2048},
	{10, 2049, 3072}, {10, 3073, 4096},
	{11, 4097, 6144}, {11, 6145, 8192},
	{12, 8193, 12288}, {12, 12289, 16384},
	{13, 16385, 24576}, {13, 24577, 32768},
	{14, 32769, 49152}, {14, 49153, 65536},
	{15, 65537, 98304}, {15, 98305, 131072},
	{16, 131073, 196608}, {16, 196609, 262144},
	{17, 262145, 393216}, {17, 393217, 524288},
	{18, 524289, 786432}, {18, 786433, 1048576},
}

func expectSplit(t *testing.T, n, symbol, bits int, extra uint32) {
	t.Helper()
	if s, k, x := value.Split(n); s != symbol || k != bits || x != extra {
		t.Errorf("Split(%d) = %d, %d, %d; want %d, %d, %d", n, s, k, x, symbol, bits, extra)
	}
}

func expectJoin(t *testing.T, symbol int, extra uint32, want int) {
	t.Helper()
	if n := value.Join(symbol, extra); n != want {
		t.Errorf("Join(%d, %d) = %d; want %d", symbol, extra, n, want)
	}
}

// P8.1: numbers told by hand.
func TestOrdinaryNumbers(t *testing.T) {
	cases := []struct {
		n, symbol, bits int
		extra           uint32
	}{
		{1, 0, 0, 0},
		{2, 1, 0, 0},
		{3, 2, 0, 0},
		{4, 3, 0, 0},
		{5, 4, 1, 0},
		{6, 4, 1, 1},
		{7, 5, 1, 0},
		{8, 5, 1, 1},
		{9, 6, 2, 0},
		{10, 6, 2, 1},
		{11, 6, 2, 2},
		{12, 6, 2, 3},
		{13, 7, 2, 0},
		{20, 8, 3, 3},
		{100, 13, 5, 3},
		{121, 13, 5, 24},
		{1000, 19, 8, 231},
		{4096, 23, 10, 1023},
		{4097, 24, 11, 0},
		{100000, 33, 15, 1695},
		{600000, 38, 18, 75711},
		{1000000, 39, 18, 213567},
		{1 << 20, 39, 18, 262143},
	}
	for _, c := range cases {
		expectSplit(t, c.n, c.symbol, c.bits, c.extra)
		expectJoin(t, c.symbol, c.extra, c.n)
	}
}

// P8.1: the first and the last number of each symbol, with nothing but noughts and nothing but ones.
func TestEndsOfEachSymbol(t *testing.T) {
	if len(spans) != api.Distances {
		t.Fatalf("%d symbols", len(spans))
	}
	for symbol, s := range spans {
		ones := uint32(1)<<s.bits - 1
		expectSplit(t, s.first, symbol, s.bits, 0)
		expectSplit(t, s.last, symbol, s.bits, ones)
		expectJoin(t, symbol, 0, s.first)
		expectJoin(t, symbol, ones, s.last)
		if k := value.Extra(symbol); k != s.bits {
			t.Errorf("Extra(%d) = %d; want %d", symbol, k, s.bits)
		}
	}
}

// P8.1: symbol by symbol, and extra by extra, the numbers are gone through one by one, each once, from 1 to 2^20.
func TestEveryNumber(t *testing.T) {
	n := 0
	for symbol := range api.Distances {
		bits := value.Extra(symbol)
		for extra := range uint32(1) << bits {
			n++
			expectSplit(t, n, symbol, bits, extra)
			expectJoin(t, symbol, extra, n)
			if t.Failed() {
				return
			}
		}
	}
	if n != most {
		t.Errorf("the last number is %d", n)
	}
}

// P8.1, by the chapter's words: the highest bit, the one behind it and the rest are n - 1 again.
func TestSplitByItsWords(t *testing.T) {
	for n := 5; n <= most; n++ {
		symbol, bits, extra := value.Split(n)
		k, s := symbol/2, symbol%2
		if bits != k-1 || extra>>bits != 0 || 1<<k+s<<(k-1)+int(extra) != n-1 {
			t.Fatalf("Split(%d) = %d, %d, %d", n, symbol, bits, extra)
		}
	}
}

// P8.1: lengths of copies have symbols that the first code has room for, distances those of the fifth.
func TestSymbolsOfLengthsAndDistances(t *testing.T) {
	if symbol, _, _ := value.Split(api.MaxCopy); symbol != api.Lengths-1 {
		t.Errorf("the greatest length has symbol %d", symbol)
	}
	if symbol, _, _ := value.Split(api.MaxFar + 120); symbol != api.Distances-1 {
		t.Errorf("the greatest distance has symbol %d", symbol)
	}
}

// P8.1: numbers below 1 and above 2^20.
func TestSplitOfWrongNumbers(t *testing.T) {
	for _, n := range wrongNumbers {
		expectSplit(t, n, 0, 0, 0)
	}
	for n := -5000; n < 1; n++ {
		expectSplit(t, n, 0, 0, 0)
	}
	for n := most + 1; n < most+5000; n++ {
		expectSplit(t, n, 0, 0, 0)
	}
	for place := 21; place < 63; place++ {
		expectSplit(t, 1<<place, 0, 0, 0)
		expectSplit(t, 1<<place+1, 0, 0, 0)
		expectSplit(t, -1<<place+7, 0, 0, 0)
	}
}

// P8.1: symbols below 0 and above 39.
func TestWrongSymbols(t *testing.T) {
	check := func(symbol int) {
		if k := value.Extra(symbol); k != 0 {
			t.Errorf("Extra(%d) = %d; want 0", symbol, k)
		}
		for _, extra := range []uint32{0, 1, 2, 3, 1 << 17, 1<<18 - 1, 1 << 18, 1 << 31, math.MaxUint32} {
			expectJoin(t, symbol, extra, 0)
		}
	}
	for _, symbol := range wrongSymbols {
		check(symbol)
	}
	for symbol := -600; symbol < 0; symbol++ {
		check(symbol)
	}
	for symbol := 40; symbol < 600; symbol++ {
		check(symbol)
	}
}

// P8.1: an extra of more bits than the symbol has, by one and by many, also with its own bits set.
func TestJoinOfTooManyBits(t *testing.T) {
	for symbol, s := range spans {
		for place := s.bits; place < 32; place++ {
			over := uint32(1) << place
			expectJoin(t, symbol, over, 0)
			expectJoin(t, symbol, over|1, 0)
			expectJoin(t, symbol, over|(1<<s.bits-1), 0)
			expectJoin(t, symbol, over|(over-1), 0)
		}
		expectJoin(t, symbol, math.MaxUint32, 0)
	}
}

// R5: what was asked ahead of a call changes nothing.
func TestAskedAgain(t *testing.T) {
	for range 3 {
		expectSplit(t, 1000, 19, 8, 231)
		expectSplit(t, 0, 0, 0, 0)
		expectJoin(t, 19, 231, 1000)
		expectJoin(t, 19, 256, 0)
		if value.Extra(19) != 8 || value.Extra(40) != 0 {
			t.Error("Extra")
		}
	}
}
