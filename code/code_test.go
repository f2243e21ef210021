package code_test

import (
	"math"
	"math/big"
	"slices"
	"testing"

	"marquetry/api"
	"marquetry/code"
)

// Lengths that may not be.
var wrong = []int{math.MinInt, math.MinInt + 1, math.MinInt32, -1 << 32, -64, -16, -15, -2, -1,
	16, 17, 31, 32, 63, 64, 65, 255, 256, 257, 1 << 31, 1 << 32, 1<<32 + 1, math.MaxInt - 1, math.MaxInt}

// Symbols that have a length.
func having(lens []int) []int {
	var symbols []int
	for s, l := range lens {
		if l != 0 {
			symbols = append(symbols, s)
		}
	}
	return symbols
}

// The error, by the chapter's sum as a fraction.
func modelCheck(lens []int) api.Errno {
	sum := new(big.Rat)
	for _, l := range lens {
		if l < 0 || l > 15 {
			return api.ErrRange
		}
		if l > 0 {
			sum.Add(sum, big.NewRat(1, 1<<l))
		}
	}
	if len(having(lens)) != 1 && sum.Cmp(big.NewRat(1, 1)) != 0 {
		return api.ErrForm
	}
	return api.OK
}

// The codes, one behind the other as the chapter's sentence goes.
func modelCodes(lens []int) []uint32 {
	if modelCheck(lens) != api.OK {
		return nil
	}
	symbols := having(lens)
	slices.SortStableFunc(symbols, func(a, b int) int { return lens[a] - lens[b] })
	codes := make([]uint32, len(lens))
	for i, s := range symbols {
		if i > 0 {
			ahead := symbols[i-1]
			codes[s] = (codes[ahead] + 1) << (lens[s] - lens[ahead])
		}
	}
	return codes
}

func modelOne(lens []int) (int, bool) {
	if symbols := having(lens); len(symbols) == 1 {
		return symbols[0], true
	}
	return 0, false
}

func expectCheck(t *testing.T, lens []int, want api.Errno) {
	t.Helper()
	if e := code.Check(lens); e != want {
		t.Errorf("Check(%v) = %d; want %d", lens, e, want)
	}
	if want != api.OK {
		expectCodes(t, lens)
	}
}

func expectCodes(t *testing.T, lens []int, want ...uint32) {
	t.Helper()
	if c := code.Codes(lens); !slices.Equal(c, want) {
		t.Errorf("Codes(%v) = %b; want %b", lens, c, want)
	}
}

func expectOne(t *testing.T, lens []int, symbol int, ok bool) {
	t.Helper()
	if s, o := code.One(lens); s != symbol || o != ok {
		t.Errorf("One(%v) = %d, %v; want %d, %v", lens, s, o, symbol, ok)
	}
}

// All three calls held against what the chapter says.
func expectAll(t *testing.T, lens []int) {
	t.Helper()
	expectCheck(t, lens, modelCheck(lens))
	expectCodes(t, lens, modelCodes(lens)...)
	symbol, ok := modelOne(lens)
	expectOne(t, lens, symbol, ok)
}

func repeated(length, n int) []int {
	return slices.Repeat([]int{length}, n)
}

// 1, 2, 3, .. up to last, and last once more: complete.
func stairs(last int) []int {
	var lens []int
	for l := 1; l <= last; l++ {
		lens = append(lens, l)
	}
	return append(lens, last)
}

func TestTheChaptersExample(t *testing.T) {
	expectCheck(t, []int{2, 1, 2}, api.OK)
	expectCodes(t, []int{2, 1, 2}, 0b10, 0b0, 0b11)
	expectOne(t, []int{2, 1, 2}, 0, false)
}

func TestOrdinary(t *testing.T) {
	for _, x := range []struct {
		lens  []int
		codes []uint32
	}{
		{[]int{1, 1}, []uint32{0, 1}},
		{[]int{1, 2, 2}, []uint32{0, 0b10, 0b11}},
		{[]int{2, 2, 1}, []uint32{0b10, 0b11, 0}},
		{[]int{2, 2, 2, 2}, []uint32{0, 1, 2, 3}},
		{[]int{2, 3, 2, 3, 2}, []uint32{0b00, 0b110, 0b01, 0b111, 0b10}},
		{[]int{3, 3, 3, 3, 3, 2, 4, 4}, []uint32{0b010, 0b011, 0b100, 0b101, 0b110, 0b00, 0b1110, 0b1111}},
		{[]int{4, 1, 4, 4, 4, 2}, []uint32{0b1100, 0b0, 0b1101, 0b1110, 0b1111, 0b10}},
		{[]int{5, 2, 5, 2, 3, 4, 2}, []uint32{0b11110, 0b00, 0b11111, 0b01, 0b110, 0b1110, 0b10}},
	} {
		expectCheck(t, x.lens, api.OK)
		expectCodes(t, x.lens, x.codes...)
		expectOne(t, x.lens, 0, false)
	}
}

// A code may be longer by several bits than the one ahead of it.
func TestCodesAreLongerBySeveralBits(t *testing.T) {
	expectCodes(t, []int{3, 1, 3, 3, 3}, 0b100, 0, 0b101, 0b110, 0b111)
	lens := append([]int{1}, repeated(15, 1<<14)...)
	want := []uint32{0}
	for i := range uint32(1 << 14) {
		want = append(want, 1<<14+i)
	}
	expectCheck(t, lens, api.OK)
	if !slices.Equal(code.Codes(lens), want) {
		t.Error("1, and 15 of all others: wrong codes")
	}
}

func TestSymbolsOfLengthZeroBetween(t *testing.T) {
	expectCheck(t, []int{0, 2, 0, 0, 1, 2, 0}, api.OK)
	expectCodes(t, []int{0, 2, 0, 0, 1, 2, 0}, 0, 0b10, 0, 0, 0, 0b11, 0)
	expectCodes(t, []int{0, 0, 1, 0, 1}, 0, 0, 0, 0, 1)
	expectCodes(t, []int{1, 0, 1}, 0, 0, 1)
	expectCodes(t, []int{2, 1, 3, 0, 3}, 0b10, 0, 0b110, 0, 0b111)
}

// Just one symbol with a length: complete, whatever that is, and its code is no bits.
func TestJustOne(t *testing.T) {
	for length := 1; length <= api.MaxLen; length++ {
		for n := 1; n <= 9; n++ {
			for symbol := range n {
				lens := make([]int, n)
				lens[symbol] = length
				expectCheck(t, lens, api.OK)
				expectOne(t, lens, symbol, true)
				expectCodes(t, lens, make([]uint32, n)...)
			}
		}
	}
}

// The first and the last of many, with nothing between.
func TestJustOneOfMany(t *testing.T) {
	for _, symbol := range []int{0, 1, 279, 280, 2327, 4095, 99999} {
		lens := make([]int, 100000)
		lens[symbol] = 8
		expectCheck(t, lens, api.OK)
		expectOne(t, lens, symbol, true)
		if c := code.Codes(lens); !slices.Equal(c, make([]uint32, len(lens))) {
			t.Errorf("symbol %d alone: %d codes, not all 0", symbol, len(c))
		}
		other := (symbol + 1) % len(lens)
		lens[other] = 8
		expectOne(t, lens, 0, false)
		if e := code.Check(lens); e != api.ErrForm {
			t.Errorf("symbols %d and %d alone, 8 bits each: %d", symbol, other, e)
		}
	}
}

func TestNoLengths(t *testing.T) {
	for _, lens := range [][]int{nil, {}, {0}, {0, 0}, make([]int, 280)} {
		expectCheck(t, lens, api.ErrForm)
		expectOne(t, lens, 0, false)
	}
}

// As many symbols of one length as there may be; one fewer, and one more.
func TestAllOfOneLength(t *testing.T) {
	for length := 1; length <= api.MaxLen; length++ {
		full := repeated(length, 1<<length)
		if e := code.Check(full); e != api.OK {
			t.Errorf("all of %d bits: %d", length, e)
		}
		codes := code.Codes(full)
		if len(codes) != len(full) {
			t.Fatalf("all of %d bits: %d codes", length, len(codes))
		}
		for s, c := range codes {
			if c != uint32(s) {
				t.Fatalf("all of %d bits: symbol %d has %b", length, s, c)
			}
		}
		most := append(slices.Clone(full), length)
		if e := code.Check(most); e != api.ErrForm || code.Codes(most) != nil {
			t.Errorf("one more than all of %d bits: %d", length, e)
		}
		if length == 1 {
			continue // one alone is complete
		}
		if e := code.Check(full[1:]); e != api.ErrForm || code.Codes(full[1:]) != nil {
			t.Errorf("one fewer than all of %d bits: %d", length, e)
		}
	}
}

func TestStairs(t *testing.T) {
	for last := 1; last <= api.MaxLen; last++ {
		up := stairs(last)
		down := slices.Clone(up)
		slices.Reverse(down)
		want := []uint32{}
		for l := 1; l <= last; l++ {
			want = append(want, 1<<l-2)
		}
		want = append(want, 1<<last-1)
		expectCheck(t, up, api.OK)
		expectCodes(t, up, want...)
		// Turned round, the two longest change places: of one length the lesser symbol is first.
		slices.Reverse(want)
		want[0], want[1] = want[1], want[0]
		expectCheck(t, down, api.OK)
		expectCodes(t, down, want...)
	}
}

// One step of the longest codes away from 1, on either side.
func TestNearlyComplete(t *testing.T) {
	for last := 2; last <= api.MaxLen; last++ {
		full := stairs(last)
		expectCheck(t, full[:last], api.ErrForm)
		expectCheck(t, full[1:], api.ErrForm)
		expectCheck(t, append(full, last), api.ErrForm)
		expectCheck(t, append(full, api.MaxLen), api.ErrForm)
		expectCheck(t, append(full, 1), api.ErrForm)
		expectCheck(t, append(full, 0), api.OK)
	}
	expectCheck(t, []int{1, 2}, api.ErrForm)
	expectCheck(t, []int{1, 1, 1}, api.ErrForm)
	expectCheck(t, []int{1, 15}, api.ErrForm)
	expectCheck(t, []int{15, 15}, api.ErrForm)
	expectCheck(t, []int{1, 1, 15}, api.ErrForm)
}

// A sum of exactly 2, 3, .. is no more complete than another one; nor is one that a number of few bits would take for 1.
func TestSumsThatGoRound(t *testing.T) {
	for times := 2; times <= 6; times++ {
		expectCheck(t, repeated(1, 2*times), api.ErrForm)
	}
	for _, n := range []int{1 << 16, 1<<16 + 2, 1<<17 + 2, 1<<18 + 2} {
		if e := code.Check(repeated(1, n)); e != api.ErrForm {
			t.Errorf("%d symbols of 1 bit: %d", n, e)
		}
	}
}

func TestWrongLengths(t *testing.T) {
	for _, length := range wrong {
		expectCheck(t, []int{length}, api.ErrRange)
		expectCheck(t, []int{0, length}, api.ErrRange)
		expectCheck(t, []int{length, 0}, api.ErrRange)
		expectCheck(t, []int{length, length}, api.ErrRange)
		for at := 0; at <= 3; at++ {
			// Complete but for the one that may not be.
			expectCheck(t, slices.Insert([]int{2, 1, 2}, at, length), api.ErrRange)
		}
	}
}

// Which is told: a length that may not be, also where the others are not complete ahead of it.
func TestWrongLengthsAreToldFirst(t *testing.T) {
	for _, length := range wrong {
		expectCheck(t, []int{1, 1, 1, length}, api.ErrRange)
		expectCheck(t, []int{length, 1, 1, 1}, api.ErrRange)
		expectCheck(t, []int{3, length}, api.ErrRange)
		expectCheck(t, []int{3, 4, length, 0}, api.ErrRange)
		expectCheck(t, append(make([]int, 500), length), api.ErrRange)
	}
}

// One asks for a length that is not 0, and no more.
func TestOneOfWrongLengths(t *testing.T) {
	for _, length := range wrong {
		expectOne(t, []int{length}, 0, true)
		expectOne(t, []int{0, 0, length, 0}, 2, true)
		expectOne(t, []int{length, length}, 0, false)
		expectOne(t, []int{0, 3, length}, 0, false)
		expectOne(t, []int{length, 3}, 0, false)
	}
}

func TestOne(t *testing.T) {
	expectOne(t, []int{0, 0, 4}, 2, true)
	expectOne(t, []int{0, 5, 0}, 1, true)
	expectOne(t, []int{15, 0, 0}, 0, true)
	expectOne(t, []int{1, 1}, 0, false)
	expectOne(t, []int{0, 1, 0, 1}, 0, false)
	expectOne(t, []int{0, 3, 3, 3}, 0, false)
}

// Each list of up to six lengths from -1 to 4, and of up to four with the longest ones.
func TestEachShortList(t *testing.T) {
	var walk func(lens, from []int, most int)
	walk = func(lens, from []int, most int) {
		expectAll(t, lens)
		if len(lens) == most {
			return
		}
		for _, l := range from {
			walk(append(slices.Clone(lens), l), from, most)
		}
	}
	walk(nil, []int{-1, 0, 1, 2, 3, 4}, 6)
	walk(nil, []int{0, 1, 2, 14, 15, 16}, 5)
}

// Complete lengths of any form, made by parting a code into two again and again, by a fixed rule.
func parted(seed uint32, steps int) []int {
	lens := []int{1, 1}
	for range steps {
		seed = seed*1664525 + 1013904223
		at := int(seed>>8) % len(lens)
		switch {
		case seed>>29 == 0:
			lens = slices.Insert(lens, at, 0)
		case lens[at] > 0 && lens[at] < api.MaxLen:
			lens[at]++
			lens = slices.Insert(lens, int(seed>>16)%len(lens), lens[at])
		}
	}
	return lens
}

func TestManyForms(t *testing.T) {
	for seed := range uint32(300) {
		lens := parted(seed, int(seed)*3)
		expectCheck(t, lens, api.OK)
		expectAll(t, lens)
		for at, l := range lens {
			// Complete no more, if one of several is changed.
			if l == 0 || len(having(lens)) == 2 {
				continue
			}
			lens[at] = l - 1
			expectCheck(t, lens, api.ErrForm)
			lens[at] = l
		}
	}
}

// No code begins another one, and each that is as long as the longest is begun by one.
func TestCodesPartAllBits(t *testing.T) {
	for seed := range uint32(40) {
		lens := parted(seed+1000, 200)
		owner := make([]int, 1<<api.MaxLen)
		for s, c := range code.Codes(lens) {
			if lens[s] == 0 {
				continue
			}
			width := 1 << (api.MaxLen - lens[s])
			for i := int(c) * width; i < (int(c)+1)*width; i++ {
				owner[i]++
			}
		}
		for i, n := range owner {
			if n != 1 {
				t.Fatalf("%v: %015b is begun by %d codes", lens, i, n)
			}
		}
	}
}

func TestLensAreNotChanged(t *testing.T) {
	for _, lens := range [][]int{{2, 1, 2}, {0, 0, 4}, {1, 1, 1}, {16, 1, 1}, {-1}, {0, 2, 0, 1, 2}} {
		room := append(slices.Clone(lens), 7, 8, 9)
		was := slices.Clone(room)
		given := room[:len(lens)]
		code.Check(given)
		code.Codes(given)
		code.One(given)
		if !slices.Equal(room, was) {
			t.Errorf("%v became %v", was, room)
		}
	}
}

func TestCodesAreNewMemory(t *testing.T) {
	lens := []int{2, 1, 3, 0, 3}
	first, second := code.Codes(lens), code.Codes(lens)
	for i := range first[:cap(first)] {
		first[:cap(first)][i] = math.MaxUint32
	}
	want := []uint32{0b10, 0, 0b110, 0, 0b111}
	if !slices.Equal(second, want) {
		t.Errorf("two answers share memory: %b", second)
	}
	expectCodes(t, lens, want...)
	lens[0] = 1
	if !slices.Equal(second, want) {
		t.Errorf("an answer hangs on what was handed in: %b", second)
	}
}
