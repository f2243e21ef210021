package tree_test

import (
	"fmt"
	"math"
	"slices"
	"strings"
	"sync"
	"testing"

	"marquetry/api"
	"marquetry/bitin"
	"marquetry/bitout"
	"marquetry/internal/bittext"
	"marquetry/tree"
)

// Numbers that are no symbol of a short list.
var wrong = []int{math.MinInt, math.MinInt + 1, math.MinInt32, -1 << 32, -256, -3, -2, -1,
	1 << 16, 1 << 31, 1 << 32, 1<<32 + 1, math.MaxInt - 1, math.MaxInt}

func planted(t *testing.T, lens ...int) *tree.Tree {
	t.Helper()
	x, e := tree.New(lens)
	if e != api.OK || x == nil {
		t.Fatalf("New(%v) = %v, %d", lens, x, e)
	}
	return x
}

func expectRead(t *testing.T, x *tree.Tree, r *bitin.Reader, symbol int, e api.Errno, left int) {
	t.Helper()
	over := r.Over()
	s, got := x.Read(r)
	if s != symbol || got != e {
		t.Errorf("Read = %d, %d; want %d, %d", s, got, symbol, e)
	}
	if r.Left() != left || r.Over() != (over || e == api.ErrEnd) {
		t.Errorf("behind Read: %d bits left, over: %v; want %d", r.Left(), r.Over(), left)
	}
}

func expectWrite(t *testing.T, x *tree.Tree, w *bitout.Writer, symbol int, ok bool, want string) {
	t.Helper()
	if got := x.Write(w, symbol); got != ok {
		t.Errorf("Write(%d) = %v; want %v", symbol, got, ok)
	}
	if w.Len() != len(want) || !slices.Equal(w.Bytes(), bittext.Bytes(want)) {
		t.Errorf("behind Write(%d): %d bits, % x; want %s", symbol, w.Len(), w.Bytes(), want)
	}
}

func expectCost(t *testing.T, x *tree.Tree, symbol, cost int, ok bool) {
	t.Helper()
	if c, o := x.Cost(symbol); c != cost || o != ok {
		t.Errorf("Cost(%d) = %d, %v; want %d, %v", symbol, c, o, cost, ok)
	}
}

// Each symbol's code written, read and counted, and each that is cut off.
func expectCodes(t *testing.T, lens []int, codes []string) {
	t.Helper()
	x := planted(t, lens...)
	for symbol, c := range codes {
		if c == "-" {
			expectWrite(t, x, bittext.Writer("101"), symbol, false, "101")
			expectCost(t, x, symbol, 0, false)
			continue
		}
		expectCost(t, x, symbol, len(c), true)
		expectWrite(t, x, bittext.Writer(""), symbol, true, c)
		expectWrite(t, x, bittext.Writer("01101"), symbol, true, "01101"+c)
		expectRead(t, x, bittext.Reader(c), symbol, api.OK, 0)
		expectRead(t, x, bittext.Reader(c+"0110"), symbol, api.OK, 4)
		expectRead(t, x, bittext.Reader(c+"1001"), symbol, api.OK, 4)
		for i := range c {
			expectRead(t, x, bittext.Reader(c[:i]), 0, api.ErrEnd, 0)
		}
	}
	for _, symbol := range append(wrong, len(lens), len(lens)+1, ^len(lens), -len(lens)) {
		if symbol >= 0 && symbol < len(lens) {
			continue
		}
		expectCost(t, x, symbol, 0, false)
		expectWrite(t, x, bittext.Writer("101"), symbol, false, "101")
	}
}

func repeated(length, n int) []int {
	return slices.Repeat([]int{length}, n)
}

// 1, 2, 3, .. up to last, and last once more: complete.
func stairs(last int) []int {
	var lens []int
	for l := 1; l <= last; l++ {
		lens = append(lens, l)
	}
	return append(lens, last)
}

// Complete lengths of any form, made by parting a code into two again and again, by a fixed rule.
func parted(seed uint32, steps int) []int {
	lens := []int{1, 1}
	for range steps {
		seed = seed*1664525 + 1013904223
		at := int(seed>>8) % len(lens)
		switch {
		case seed>>29 == 0:
			lens = slices.Insert(lens, at, 0)
		case lens[at] > 0 && lens[at] < api.MaxLen:
			lens[at]++
			lens = slices.Insert(lens, int(seed>>16)%len(lens), lens[at])
		}
	}
	return lens
}

func TestTheChaptersExample(t *testing.T) {
	x := planted(t, 2, 1, 2)
	r := bittext.Reader("011")
	expectRead(t, x, r, 1, api.OK, 2)
	expectRead(t, x, r, 2, api.OK, 0)
	w := bitout.New()
	expectWrite(t, x, w, 1, true, "0")
	expectWrite(t, x, w, 2, true, "011")
}

// The codes are written out: the highest bit of each is the first one that is read and written.
func TestOrdinary(t *testing.T) {
	for _, x := range []struct {
		lens  []int
		codes string
	}{
		{[]int{1, 1}, "0 1"},
		{[]int{2, 1, 2}, "10 0 11"},
		{[]int{1, 2, 2}, "0 10 11"},
		{[]int{2, 2, 2, 2}, "00 01 10 11"},
		{[]int{2, 1, 3, 0, 3}, "10 0 110 - 111"},
		{[]int{2, 3, 2, 3, 2}, "00 110 01 111 10"},
		{[]int{0, 2, 0, 0, 1, 2, 0}, "- 10 - - 0 11 -"},
		{[]int{3, 3, 3, 3, 3, 2, 4, 4}, "010 011 100 101 110 00 1110 1111"},
		{[]int{4, 1, 4, 4, 4, 2}, "1100 0 1101 1110 1111 10"},
		{[]int{3, 1, 3, 3, 3}, "100 0 101 110 111"},
	} {
		expectCodes(t, x.lens, strings.Fields(x.codes))
		if got := bittext.Codes(x.lens); !slices.Equal(got, strings.Fields(x.codes)) {
			t.Errorf("the model has %v of %v", got, x.lens)
		}
	}
}

func TestEachLength(t *testing.T) {
	for last := 1; last <= api.MaxLen; last++ {
		up := stairs(last)
		down := slices.Clone(up)
		slices.Reverse(down)
		expectCodes(t, up, bittext.Codes(up))
		expectCodes(t, down, bittext.Codes(down))
	}
	for length := 1; length <= 8; length++ {
		lens := repeated(length, 1<<length)
		expectCodes(t, lens, bittext.Codes(lens))
	}
	// Longer by many bits than the shortest one; nothing has a length between.
	lens := append(repeated(15, 1<<14), 1)
	x := planted(t, lens...)
	expectRead(t, x, bittext.Reader("0"), 1<<14, api.OK, 0)
	expectRead(t, x, bittext.Reader("100000000000000"), 0, api.OK, 0)
	expectRead(t, x, bittext.Reader("111111111111111"), 1<<14-1, api.OK, 0)
	expectRead(t, x, bittext.Reader("111111111111110"), 1<<14-2, api.OK, 0)
	expectWrite(t, x, bittext.Writer(""), 1<<14-2, true, "111111111111110")
	expectRead(t, x, bittext.Reader("11111111111111"), 0, api.ErrEnd, 0)
}

// As many symbols as there may be: each has as many bits as any other.
func TestAsManySymbolsAsThereMayBe(t *testing.T) {
	x := planted(t, repeated(15, 1<<15)...)
	for symbol := 0; symbol < 1<<15; symbol += 41 {
		c := fmt.Sprintf("%015b", symbol)
		expectWrite(t, x, bittext.Writer("1"), symbol, true, "1"+c)
		expectRead(t, x, bittext.Reader(c+"1"), symbol, api.OK, 1)
		expectCost(t, x, symbol, 15, true)
	}
	expectRead(t, x, bittext.Reader("01111111111111"), 0, api.ErrEnd, 0)
}

func TestManyForms(t *testing.T) {
	for seed := range uint32(120) {
		lens := parted(seed, int(seed)*2)
		expectCodes(t, lens, bittext.Codes(lens))
	}
}

// Each list of up to five lengths from 0 to 4: its tree, or the error.
func TestEachShortList(t *testing.T) {
	var walk func(lens []int)
	walk = func(lens []int) {
		sum, count := 0, 0
		for _, l := range lens {
			if l != 0 {
				sum += 16 >> l
				count++
			}
		}
		if sum == 16 || count == 1 {
			expectCodes(t, lens, bittext.Codes(lens))
		} else {
			expectRefused(t, lens, api.ErrForm)
		}
		if len(lens) == 5 {
			return
		}
		for l := range 5 {
			walk(append(slices.Clone(lens), l))
		}
	}
	walk(nil)
}

// Symbols one behind the other, of two trees by turns, and with bits between that are no code's.
func TestOneBehindTheOther(t *testing.T) {
	a, b := parted(7, 90), parted(8, 200)
	trees := []*tree.Tree{planted(t, a...), planted(t, b...)}
	codes := [][]string{bittext.Codes(a), bittext.Codes(b)}
	w := bitout.New()
	var want string
	var symbols []int
	for i := range 3000 {
		symbol := i * 7919 % len(codes[i%2])
		has := codes[i%2][symbol] != "-"
		if ok := trees[i%2].Write(w, symbol); ok != has {
			t.Fatalf("Write(%d) = %v; want %v", symbol, ok, has)
		}
		if !has {
			symbols = append(symbols, -1)
			continue
		}
		symbols = append(symbols, symbol)
		w.Bits(uint32(i&3), 2)
		want += codes[i%2][symbol] + string(rune('0'+i&1)) + string(rune('0'+i>>1&1))
	}
	if w.Len() != len(want) || !slices.Equal(w.Bytes(), bittext.Bytes(want)) {
		t.Fatalf("%d bits, or other ones than the codes; want %d", w.Len(), len(want))
	}
	r := bittext.Reader(want)
	for i, symbol := range symbols {
		if symbol < 0 {
			continue
		}
		if s, e := trees[i%2].Read(r); s != symbol || e != api.OK {
			t.Fatalf("symbol %d: Read = %d, %d; want %d", i, s, e, symbol)
		}
		if v, _ := r.Bits(2); v != uint32(i&3) {
			t.Fatalf("behind symbol %d: %d", i, v)
		}
	}
	expectRead(t, trees[0], r, 0, api.ErrEnd, 0)
}

// Just one symbol with a length, whatever that is: no bits are read or written.
func TestJustOne(t *testing.T) {
	for length := 1; length <= api.MaxLen; length++ {
		for n := 1; n <= 6; n++ {
			for symbol := range n {
				lens := make([]int, n)
				lens[symbol] = length
				codes := slices.Repeat([]string{"-"}, n)
				codes[symbol] = ""
				expectCodes(t, lens, codes)
			}
		}
	}
}

func TestJustOneReadsNoBits(t *testing.T) {
	x := planted(t, append(make([]int, 4000), 9)...)
	r := bittext.Reader("1011")
	for range 100 {
		expectRead(t, x, r, 4000, api.OK, 4)
	}
	// At the end of the bits it is there yet; of a reader that is over it is not.
	r.Bits(4)
	expectRead(t, x, r, 4000, api.OK, 0)
	expectRead(t, x, bitin.New(nil), 4000, api.OK, 0)
	expectRead(t, x, new(bitin.Reader), 4000, api.OK, 0)
	r.Bits(1)
	expectRead(t, x, r, 0, api.ErrEnd, 0)
	expectRead(t, x, r, 0, api.ErrEnd, 0)
	expectRead(t, x, bittext.OverReader(), 0, api.ErrEnd, 0)
	expectRead(t, x, nil, 0, api.ErrEnd, 0)
}

// Bits that run out ahead of a code's end: the reader is over from then on, for each tree.
func TestBitsRunOut(t *testing.T) {
	x, one := planted(t, 2, 1, 3, 0, 3), planted(t, 0, 9)
	for _, bits := range []string{"", "1", "11"} {
		r := bittext.Reader(bits)
		expectRead(t, one, r, 1, api.OK, len(bits))
		expectRead(t, x, r, 0, api.ErrEnd, 0)
		expectRead(t, x, r, 0, api.ErrEnd, 0)
		expectRead(t, one, r, 0, api.ErrEnd, 0)
	}
	r := bittext.Reader("0011011")
	expectRead(t, x, r, 1, api.OK, 6)
	expectRead(t, x, r, 1, api.OK, 5)
	expectRead(t, x, r, 2, api.OK, 2)
	expectRead(t, x, r, 0, api.ErrEnd, 0)
	expectRead(t, x, bittext.OverReader(), 0, api.ErrEnd, 0)
	expectRead(t, x, new(bitin.Reader), 0, api.ErrEnd, 0)
	expectRead(t, x, nil, 0, api.ErrEnd, 0)
	// All codes are as long: one bit too few is as good as none.
	expectRead(t, planted(t, repeated(4, 16)...), bittext.Reader("111"), 0, api.ErrEnd, 0)
	expectRead(t, planted(t, repeated(4, 16)...), bittext.Reader(""), 0, api.ErrEnd, 0)
}

func TestNilTree(t *testing.T) {
	// A tree without codes can not be made by New; it is as nil.
	for _, x := range []*tree.Tree{nil, new(tree.Tree)} {
		expectRead(t, x, bittext.Reader("0110"), 0, api.ErrArg, 4)
		expectRead(t, x, bitin.New(nil), 0, api.ErrArg, 0)
		expectRead(t, x, bittext.OverReader(), 0, api.ErrArg, 0)
		expectRead(t, x, nil, 0, api.ErrArg, 0)
		for _, symbol := range append(wrong, 0, 1, 2, 15, 279) {
			expectWrite(t, x, bittext.Writer("110"), symbol, false, "110")
			expectWrite(t, x, nil, symbol, false, "")
			expectCost(t, x, symbol, 0, false)
		}
	}
}

func TestNilWriter(t *testing.T) {
	for _, x := range []*tree.Tree{planted(t, 2, 1, 2), planted(t, 0, 1, 0)} {
		for _, symbol := range append(wrong, 0, 1, 2) {
			expectWrite(t, x, nil, symbol, false, "")
		}
	}
	var zero bitout.Writer
	expectWrite(t, planted(t, 2, 1, 2), &zero, 0, true, "10")
}

func expectRefused(t *testing.T, lens []int, want api.Errno) {
	t.Helper()
	if x, e := tree.New(lens); x != nil || e != want {
		t.Errorf("New(%v) = %v, %d; want nil, %d", lens, x, e, want)
	}
}

func TestLengthsThatAreNotComplete(t *testing.T) {
	for _, lens := range [][]int{nil, {}, {0}, make([]int, 280), {1, 2}, {2, 2}, {1, 1, 1}, {1, 1, 15}, {15, 15},
		{2, 2, 2}, {1, 2, 2, 3}, {1, 0, 3, 0, 3}, stairs(15)[:15], repeated(1, 4), repeated(15, 1<<15-1), repeated(15, 1<<15+1)} {
		expectRefused(t, lens, api.ErrForm)
	}
}

func TestLengthsThatMayNotBe(t *testing.T) {
	for _, length := range append(wrong, 16, 17, 32, 64, 255, 256, 257) {
		expectRefused(t, []int{length}, api.ErrRange)
		expectRefused(t, []int{0, length, 0}, api.ErrRange)
		expectRefused(t, []int{2, 1, 2, length}, api.ErrRange)
		expectRefused(t, []int{length, 2, 1, 2}, api.ErrRange)
		expectRefused(t, []int{1, 1, 1, length}, api.ErrRange)
	}
}

func TestLensAreNotChangedOrKept(t *testing.T) {
	for _, lens := range [][]int{{2, 1, 2}, {0, 0, 4}, {1, 1, 1}, {16, 1, 1}, {0, 2, 0, 1, 2}} {
		room := append(slices.Clone(lens), 7, 8, 9)
		was := slices.Clone(room)
		tree.New(room[:len(lens)])
		if !slices.Equal(room, was) {
			t.Errorf("%v became %v", was, room)
		}
	}
	lens := []int{2, 1, 3, 0, 3}
	x := planted(t, lens...)
	for i := range lens {
		lens[i] = 15 - i
	}
	expectCost(t, x, 4, 3, true)
	expectCost(t, x, 3, 0, false)
	expectRead(t, x, bittext.Reader("111"), 4, api.OK, 0)
	expectWrite(t, x, bittext.Writer(""), 2, true, "110")
}

// A tree changes no more, whatever is read and written: two of one list know nothing of each other, and many may use one.
func TestTreesStayAsTheyAre(t *testing.T) {
	lens := parted(3, 150)
	codes := bittext.Codes(lens)
	x := planted(t, lens...)
	var all sync.WaitGroup
	for i := range 8 {
		all.Go(func() {
			for symbol, c := range codes {
				w := bittext.Writer("")
				if ok := x.Write(w, symbol); ok != (c != "-") {
					t.Errorf("%d: Write(%d) = %v", i, symbol, ok)
				} else if !ok {
					continue
				}
				if s, e := x.Read(bittext.Reader(c)); s != symbol || e != api.OK {
					t.Errorf("%d: Read of %s = %d, %d; want %d", i, c, s, e, symbol)
				}
				x.Read(bittext.Reader(""))
			}
		})
	}
	all.Wait()
	expectCodes(t, lens, codes)
}
