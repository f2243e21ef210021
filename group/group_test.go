package group_test

import (
	"fmt"
	"math"
	"slices"
	"testing"

	"marquetry/api"
	"marquetry/bitin"
	"marquetry/group"
	"marquetry/internal/bittext"
	"marquetry/lens"
	"marquetry/near"
)

// Bits of no cache; some would be those of one, if they were cut off.
var wrongCaches = []int{math.MinInt, math.MinInt + 4, -1 << 32, 4 - 1<<32, -256, 4 - 256, -12, -11, -2, -1, 12, 13, 16, 31, 32, 63, 64, 255, 256, 260, 1<<16 + 4, 1 << 31, 1 << 32, 1<<32 + 11, math.MaxInt - 1, math.MaxInt}

var wrongWidths = []int{math.MinInt, math.MinInt + 1, 1 - 1<<32, -16384, -2, -1, 0, 16385, 16386, 32768, 65537, 1 << 31, 1 << 32, 1<<32 + 1, math.MaxInt - 1, math.MaxInt}

// Steps that no group tells, in no width.
var wrongSteps = wrongTokens()

func wrongTokens() []api.Token {
	var list []api.Token
	for _, kind := range []int{math.MinInt, -3, -2, -1, 0, 4, 5, 7, 255, 256, 257, 258, 259, 1 << 32, 1<<32 + 1, 1<<32 + 2, 1<<32 + 3, math.MaxInt} {
		list = append(list, api.Token{Kind: kind, Len: 1, Dist: 1, Index: 1, Argb: 7})
	}
	for _, n := range []int{math.MinInt, math.MinInt + 1, 1 - 1<<32, -4096, -2, -1, 0, 4097, 4098, 8192, 65537, 1 << 20, 1 << 31, 1 << 32, 1<<32 + 1, math.MaxInt - 1, math.MaxInt} {
		list = append(list, copied(n, 1))
	}
	for _, dist := range []int{math.MinInt, math.MinInt + 1, 1 - 1<<32, -api.MaxFar, -121, -120, -2, -1, 0, api.MaxFar + 1, api.MaxFar + 2, 1 << 20, 1<<20 + 1, 1 << 31, 1 << 32, 1<<32 + 1, math.MaxInt - 120, math.MaxInt} {
		list = append(list, copied(1, dist))
	}
	for _, index := range []int{math.MinInt, math.MinInt + 280, 1 - 1<<32, -536, -281, -280, -279, -25, -24, -2, -1, 2048, 2049, 4096, 65536, 1 << 31, 1 << 32, 1<<32 + 1, math.MaxInt - 280, math.MaxInt - 279, math.MaxInt} {
		list = append(list, known(index))
	}
	return list
}

func literal(argb uint32) api.Token { return api.Token{Kind: api.Literal, Argb: argb} }

func copied(n, dist int) api.Token { return api.Token{Kind: api.Copy, Len: n, Dist: dist} }

func known(index int) api.Token { return api.Token{Kind: api.Known, Index: index} }

// wantSizes has the chapter's words.
func wantSizes(cache int) [5]int {
	sizes := [5]int{256 + 24, 256, 256, 256, 40}
	if cache > 0 {
		sizes[0] += 1 << cache
	}
	return sizes
}

// evenFive answers lengths by which each symbol has a code.
func evenFive(cache int) api.Five {
	var f api.Five
	for i, n := range wantSizes(cache) {
		f[i] = bittext.Even(n)
	}
	return f
}

// having answers n lengths: of some symbols those, of all others 0.
func having(n int, told map[int]int) []int {
	list := make([]int, n)
	for symbol, length := range told {
		list[symbol] = length
	}
	return list
}

// Pseudo-random numbers by a fixed rule.
type dice uint32

func (d *dice) below(n int) int {
	*d = *d*1664525 + 1013904223
	return int(uint32(*d)>>7) % n
}

// parted answers n complete lengths of any form, made by parting a code into two again and again.
func (d *dice) parted(n int) []int {
	list := make([]int, n)
	list[d.below(n)] = 1
	for steps := d.below(3 * n); steps >= 0; steps-- {
		from, to := d.below(n), d.below(n)
		switch {
		case list[to] != 0 || list[from] == 0 || list[from] == api.MaxLen:
		case slices.Equal(list, having(n, map[int]int{from: 1})):
			list[to] = 1
		default:
			list[from]++
			list[to] = list[from]
		}
	}
	return list
}

func (d *dice) partedFive(cache int) api.Five {
	var f api.Five
	for i, n := range wantSizes(cache) {
		f[i] = d.parted(n)
	}
	return f
}

// step answers any step that may be told with this cache.
func (d *dice) step(cache int) api.Token {
	switch d.below(3) {
	case 0:
		return literal(uint32(d.below(1<<16))<<16 | uint32(d.below(1<<16)))
	case 1:
		return copied(1+d.below(1<<d.below(13)), 1+d.below(min(api.MaxFar, 1<<d.below(21))))
	}
	if cache == 0 {
		return copied(api.MaxCopy, api.MaxFar)
	}
	return known(d.below(1 << cache))
}

func grown(t *testing.T, f api.Five, cache int) *group.Group {
	t.Helper()
	g, e := group.New(f, cache)
	if e != api.OK || g == nil {
		t.Fatalf("New with cache %d: %v, %d", cache, g, e)
	}
	return g
}

// A model tells steps by the chapter's words.
type model struct {
	codes [5][]string
}

func modelOf(f api.Five) model {
	var m model
	for i, list := range f {
		m.codes[i] = bittext.Codes(list)
	}
	return m
}

// split answers a number's symbol, and the bits behind it, by chapter 8's words.
func split(n int) (int, string) {
	if n <= 4 {
		return n - 1, ""
	}
	k := 0
	for 2<<k <= n-1 {
		k++
	}
	second := (n - 1) >> (k - 1) & 1
	return 2*k + second, bittext.Number(n-1, k-1)
}

// told is what each code tells, with the bits behind it.
type told struct {
	code, symbol int
	extra        string
}

func (m model) copy(n, code int) []told {
	first, firstBits := split(n)
	second, secondBits := split(code)
	return []told{{0, 256 + first, firstBits}, {4, second, secondBits}}
}

// parts answers what is told of a step that may be told.
func (m model) parts(s api.Token, width int) []told {
	switch s.Kind {
	case 1:
		p := int(s.Argb)
		return []told{{0, p >> 8 & 255, ""}, {1, p >> 16 & 255, ""}, {2, p & 255, ""}, {3, p >> 24, ""}}
	case 2:
		return m.copy(s.Len, near.Code(s.Dist, width))
	}
	return []told{{0, 280 + s.Index, ""}}
}

// bits answers the bits of these, false, if one has no code.
func (m model) bits(all []told) (string, bool) {
	bits := ""
	for _, x := range all {
		c := m.codes[x.code][x.symbol]
		if c == bittext.None {
			return "", false
		}
		bits += c + x.extra
	}
	return bits, true
}

// expectTold holds that s is told by these bits, and read again from them, but not from fewer.
func expectTold(t *testing.T, g *group.Group, s api.Token, width int, bits string) {
	t.Helper()
	w := bittext.Writer("10110")
	if ok := g.Tell(w, s, width); !ok || bittext.Of(w) != "10110"+bits {
		t.Errorf("Tell(%+v, %d) = %v, and put %s; want %s", s, width, ok, bittext.Of(w)[5:], bits)
	}
	expectStep(t, g, bits, width, s)
}

// expectStep holds that these bits are s, and that fewer are none.
func expectStep(t *testing.T, g *group.Group, bits string, width int, s api.Token) {
	t.Helper()
	for _, behind := range []string{"", "0", "1", "1100101"} {
		r := bittext.Reader(bits + behind)
		if got, e := g.Step(r, width); e != api.OK || got != s || r.Left() != len(behind) {
			t.Errorf("Step of %s in width %d = %+v, %d, %d bits left; want %+v, %d", bits, width, got, e, r.Left(), s, len(behind))
		}
	}
	for n := range len(bits) {
		expectNoStep(t, g, bittext.Reader(bits[:n]), width, api.ErrEnd)
	}
}

func expectNoStep(t *testing.T, g *group.Group, r *bitin.Reader, width int, want api.Errno) {
	t.Helper()
	if got, e := g.Step(r, width); e != want || got != (api.Token{}) {
		t.Errorf("Step in width %d = %+v, %d; want error %d", width, got, e, want)
	}
}

// expectUntold holds that nothing is put of s.
func expectUntold(t *testing.T, g *group.Group, s api.Token, width int) {
	t.Helper()
	for _, bits := range []string{"", "1", "0110101"} {
		w := bittext.Writer(bits)
		if g.Tell(w, s, width) || bittext.Of(w) != bits {
			t.Errorf("Tell(%+v, %d) was taken, or put %s", s, width, bittext.Of(w)[len(bits):])
		}
	}
}

func refuseNew(t *testing.T, what string, f api.Five, cache int, want api.Errno) {
	t.Helper()
	if g, e := group.New(f, cache); e != want || g != nil {
		t.Errorf("%s: New with cache %d = %v, %d; want error %d", what, cache, g, e, want)
	}
}

func refuseWrite(t *testing.T, what string, f api.Five, cache int) {
	t.Helper()
	for _, bits := range []string{"", "1", "01101001"} {
		w := bittext.Writer(bits)
		if group.Write(w, f, cache) || bittext.Of(w) != bits {
			t.Errorf("%s: Write with cache %d was taken, or put %s", what, cache, bittext.Of(w)[len(bits):])
		}
	}
}

// clone answers the same lengths, in lists of their own.
func clone(f api.Five) api.Five {
	for i, list := range f {
		f[i] = slices.Clone(list)
	}
	return f
}

// with answers f, but for one code.
func with(f api.Five, code int, list []int) api.Five {
	f[code] = list
	return f
}

// P18.1: how many symbols there are.
func TestSizes(t *testing.T) {
	firsts := []int{280, 282, 284, 288, 296, 312, 344, 408, 536, 792, 1304, 2328}
	for cache, first := range firsts {
		want := [5]int{first, 256, 256, 256, 40}
		if got := group.Sizes(cache); got != want || got != wantSizes(cache) {
			t.Errorf("Sizes(%d) = %v; want %v", cache, got, want)
		}
	}
	for _, cache := range wrongCaches {
		if got := group.Sizes(cache); got != [5]int{} {
			t.Errorf("Sizes(%d) = %v; want 0s", cache, got)
		}
	}
}

// By hand: lengths with a cache of 1 bit, and what they tell.
func byHand() api.Five {
	return api.Five{
		having(282, map[int]int{0x34: 1, 256 + 19: 2, 280 + 1: 2}),
		having(256, map[int]int{0x12: 1, 0x56: 1}),
		having(256, map[int]int{0x9a: 7}),
		having(256, map[int]int{0x00: 2, 0x80: 2, 0xff: 1}),
		having(40, map[int]int{3: 1, 15: 2, 39: 2}),
	}
}

var toldByHand = []struct {
	step  api.Token
	width int
	bits  string
}{
	{literal(0xff12349a), 10, "0 0  0"},
	{literal(0x8056349a), 1, "0 1  11"},
	{literal(0x0012349a), 16384, "0 0  10"},
	{copied(1000, 9), 10, "10 11100111 0"},
	{copied(769, 80), 10, "10 00000000 10 111000"},
	{copied(1024, 16), 17, "10 11111111 0"},
	{copied(770, api.MaxFar), 10, "10 10000000 11 111111111111111111"},
	{copied(770, api.MaxFar), 16384, "10 10000000 11 111111111111111111"},
	{known(1), 10, "11"},
}

// bare answers bits without the blanks between them.
func bare(bits string) string {
	return string(slices.DeleteFunc([]byte(bits), func(c byte) bool { return c == ' ' }))
}

// P18.2: steps and their bits, by hand, by lengths that are given and by the same ones that are written and read.
func TestStepsByHand(t *testing.T) {
	w := bittext.Writer("")
	if !group.Write(w, byHand(), 1) {
		t.Fatal("Write")
	}
	read, e := group.Read(bittext.Reader(bittext.Of(w)), 1)
	if e != api.OK {
		t.Fatal("Read", e)
	}
	for _, g := range []*group.Group{grown(t, byHand(), 1), read} {
		all := bittext.Writer("")
		var behind string
		for _, c := range toldByHand {
			expectTold(t, g, c.step, c.width, bare(c.bits))
			g.Tell(all, c.step, c.width)
			behind += bare(c.bits)
		}
		if bittext.Of(all) != behind {
			t.Errorf("one behind the other: %s; want %s", bittext.Of(all), behind)
		}
		r := bittext.Reader(behind)
		for _, c := range toldByHand {
			if got, e := g.Step(r, c.width); e != api.OK || got != c.step {
				t.Errorf("one behind the other: %+v, %d; want %+v", got, e, c.step)
			}
		}
		expectNoStep(t, g, r, 1, api.ErrEnd)
	}
}

// P18.2: of each step by hand some part has no code, with other numbers.
func TestSymbolsWithoutACode(t *testing.T) {
	g := grown(t, byHand(), 1)
	for _, s := range []api.Token{
		literal(0xff12359a), literal(0xff13349a), literal(0xff12349b), literal(0x0112349a),
		literal(0xff12009a), literal(0xff00349a), literal(0xff123400), literal(0x7f12349a),
		copied(768, 9), copied(1025, 9), copied(1, 9), copied(4096, 9),
		copied(1000, 10), copied(1000, 1), copied(1000, 72), copied(1000, 137), copied(1000, api.MaxFar/2),
		known(0),
	} {
		expectUntold(t, g, s, 10)
	}
	// In another width the same Dist has another code.
	expectTold(t, g, copied(1000, 9), 10, bare("10 11100111 0"))
	expectUntold(t, g, copied(1000, 9), 11)
	expectUntold(t, g, copied(1000, 9), 9)
}

// P18.1: New of five codes with each cache, whatever else stands behind their lengths.
func TestNew(t *testing.T) {
	d := dice(181)
	for cache := range api.MaxCache + 1 {
		grown(t, evenFive(cache), cache)
		for range 8 {
			f := d.partedFive(cache)
			g := grown(t, f, cache)
			m := modelOf(f)
			for range 40 {
				s := d.step(cache)
				if bits, ok := m.bits(m.parts(s, 100)); ok {
					expectTold(t, g, s, 100, bits)
				} else {
					expectUntold(t, g, s, 100)
				}
			}
		}
	}
}

// P18.1: caches that may not be: with codes of any numbers.
func TestWrongCaches(t *testing.T) {
	w := bittext.Writer("")
	group.Write(w, evenFive(4), 4)
	bits := bittext.Of(w)
	for _, cache := range wrongCaches {
		for _, f := range []api.Five{{}, evenFive(0), evenFive(4), evenFive(11), {{}, {}, {}, {}, {}}, {{1}, {1}, {1}, {1}, {1}}} {
			refuseNew(t, "cache", f, cache, api.ErrArg)
			refuseWrite(t, "cache", f, cache)
		}
		for _, r := range []*bitin.Reader{nil, bittext.OverReader(), bittext.Reader(""), bittext.Reader("1"), bittext.Reader(bits)} {
			left, over := r.Left(), r.Over()
			if g, e := group.Read(r, cache); e != api.ErrArg || g != nil || r.Left() != left || r.Over() != over {
				t.Errorf("Read with cache %d = %v, %d, %d bits left", cache, g, e, r.Left())
			}
		}
	}
}

// P18.1: codes with another number of lengths: ErrArg, even if others may not be by themselves.
func TestOtherNumbersOfLengths(t *testing.T) {
	for _, cache := range []int{0, 1, 2, 7, 11} {
		f := evenFive(cache)
		for i, n := range group.Sizes(cache) {
			for _, other := range []int{0, 1, 2, 40, 255, 256, 257, 279, 280, 281, 282, 284, 2327, 2328, 2329, 4096, n - 2, n - 1, n + 1, n + 2, 2 * n} {
				if other == n {
					continue
				}
				for _, list := range [][]int{make([]int, other), bittext.Even(other)} {
					refuseNew(t, "number", with(f, i, list), cache, api.ErrArg)
					refuseWrite(t, "number", with(f, i, list), cache)
					for _, length := range []int{0, 1, 99} {
						for k := range 5 {
							two := with(f, k, slices.Repeat([]int{length}, len(f[k])))
							refuseNew(t, "number", with(two, i, list), cache, api.ErrArg)
							refuseWrite(t, "number", with(two, i, list), cache)
						}
					}
				}
			}
			refuseNew(t, "none", with(f, i, nil), cache, api.ErrArg)
			refuseWrite(t, "none", with(f, i, nil), cache)
		}
		for other := range api.MaxCache + 1 {
			if other != cache {
				refuseNew(t, "another cache", f, other, api.ErrArg)
				refuseWrite(t, "another cache", f, other)
			}
		}
	}
	refuseNew(t, "nothing", api.Five{}, 0, api.ErrArg)
	refuseWrite(t, "nothing", api.Five{}, 0)
}

// wrongLens answers lengths that may not be, with the error of each.
func wrongLens(n int) map[api.Errno][][]int {
	above := bittext.Even(n)
	above[n-1] = 16
	below := bittext.Even(n)
	below[0] = -1
	many := having(n, map[int]int{0: 1, 1: 1, 2: 1})
	few := having(n, map[int]int{0: 2, n - 1: 1})
	return map[api.Errno][][]int{
		api.ErrRange: {above, below, having(n, map[int]int{5: math.MaxInt}), having(n, map[int]int{n - 1: math.MinInt}), having(n, map[int]int{0: 1 << 32})},
		api.ErrForm:  {many, few, slices.Repeat([]int{15}, n)},
	}
}

// P18.1: lengths that chapter 5's New does not take: the error of the first that has one. Write does not take them either.
func TestLengthsThatMayNotBe(t *testing.T) {
	for _, cache := range []int{0, 1, 11} {
		sizes := group.Sizes(cache)
		for i := range 5 {
			for e, lists := range wrongLens(sizes[i]) {
				for _, list := range lists {
					f := with(evenFive(cache), i, list)
					refuseNew(t, "one", f, cache, e)
					refuseWrite(t, "one", f, cache)
					for j := i + 1; j < 5; j++ {
						for _, more := range wrongLens(sizes[j]) {
							two := with(f, j, more[0])
							refuseNew(t, "two", two, cache, e)
							refuseWrite(t, "two", two, cache)
						}
					}
				}
			}
			// No symbol has a code: chapter 7 writes that, chapter 5 does not take it.
			refuseNew(t, "all 0", with(evenFive(cache), i, make([]int, sizes[i])), cache, api.ErrForm)
		}
	}
}

// P18.1: Write puts chapter 7's bits of each in turn, and Read reads them.
func TestWrittenAndRead(t *testing.T) {
	d := dice(718)
	for cache := range api.MaxCache + 1 {
		fives := []api.Five{evenFive(cache)}
		for range 6 {
			fives = append(fives, d.partedFive(cache))
		}
		for _, f := range fives {
			want := bittext.Writer("110")
			for _, list := range f {
				lens.Write(want, list)
			}
			w := bittext.Writer("110")
			if !group.Write(w, f, cache) || bittext.Of(w) != bittext.Of(want) {
				t.Fatalf("Write with cache %d: %d bits; want %d", cache, w.Len(), want.Len())
			}
			r := bittext.Reader(bittext.Of(w)[3:] + "0110")
			g, e := group.Read(r, cache)
			if e != api.OK || r.Left() != 4 {
				t.Fatalf("Read with cache %d: %d, %d bits left", cache, e, r.Left())
			}
			m := modelOf(f)
			for range 60 {
				s := d.step(cache)
				if bits, ok := m.bits(m.parts(s, 100)); ok {
					expectTold(t, g, s, 100, bits)
				} else {
					expectUntold(t, g, s, 100)
				}
			}
		}
	}
}

// P18.1: lengths that are all 0 are written as the first symbol alone: no bits.
func TestAllZeroIsWritten(t *testing.T) {
	for _, cache := range []int{0, 1, 11} {
		var f api.Five
		for i, n := range group.Sizes(cache) {
			f[i] = make([]int, n)
		}
		w := bittext.Writer("")
		if !group.Write(w, f, cache) {
			t.Fatal("Write")
		}
		g, e := group.Read(bittext.Reader(bittext.Of(w)), cache)
		if e != api.OK {
			t.Fatal("Read", e)
		}
		expectTold(t, g, literal(0), 1, "")
		expectUntold(t, g, literal(1), 1)
	}
}

// P18.1: a nil writer.
func TestWriteToNothing(t *testing.T) {
	if group.Write(nil, evenFive(0), 0) || group.Write(nil, api.Five{}, -1) {
		t.Error("Write took a nil writer")
	}
}

// The simple form of one symbol, and of two, by chapter 7's words.
func oneSymbol(symbol int) string { return "101" + bittext.Number(symbol, 8) }

func twoSymbols(a, b int) string {
	return "111" + bittext.Number(a, 8) + bittext.Number(b, 8)
}

// P18.1: groups that are read bit by bit; with bits that run out at each place.
func TestReadByHand(t *testing.T) {
	bits := twoSymbols(0x34, 0x35) + oneSymbol(0x12) + twoSymbols(0x9a, 255) + "1000" + oneSymbol(39)
	for cache := range api.MaxCache + 1 {
		r := bittext.Reader(bits + "01")
		g, e := group.Read(r, cache)
		if e != api.OK || r.Left() != 2 {
			t.Fatalf("Read with cache %d: %d, %d bits left", cache, e, r.Left())
		}
		expectTold(t, g, literal(0x0012349a), 5, "00")
		expectTold(t, g, literal(0x001235ff), 5, "11")
		expectUntold(t, g, literal(0x011235ff), 5)
		for n := range len(bits) {
			if g, e := group.Read(bittext.Reader(bits[:n]), cache); e != api.ErrEnd || g != nil {
				t.Errorf("Read of %d bits = %v, %d", n, g, e)
			}
		}
		for _, r := range []*bitin.Reader{nil, new(bitin.Reader), bittext.OverReader()} {
			if g, e := group.Read(r, cache); e != api.ErrEnd || g != nil {
				t.Errorf("Read of nothing = %v, %d", g, e)
			}
		}
	}
}

// P18.1: what chapter 7 does not take, at each of the five; what is behind it is of no account.
func TestReadOfWrongBits(t *testing.T) {
	wrong := []string{
		twoSymbols(7, 7),
		"0" + "0000" + "000 000 000 000",
		"0" + "0000" + "001 000 001 001",
		// No length of any is told.
		"0" + "0000" + "000 100 100 000" + "1 000 00" + "0 0",
	}
	for i := range 5 {
		ahead := ""
		for range i {
			ahead += oneSymbol(1)
		}
		for _, x := range wrong {
			bits := ahead + bare(x)
			for _, behind := range []string{"", "1", twoSymbols(3, 3), oneSymbol(1) + oneSymbol(1) + oneSymbol(1) + oneSymbol(1)} {
				if g, e := group.Read(bittext.Reader(bits+behind), 3); e != api.ErrForm || g != nil {
					t.Errorf("code %d, %s: Read = %v, %d", i, x, g, e)
				}
			}
		}
		ends := []int{255, 255, 255, 255, 39}
		rest := ""
		for j := i + 1; j < 5; j++ {
			rest += oneSymbol(0)
		}
		for symbol := range 256 {
			want := api.OK
			if symbol > ends[i] {
				want = api.ErrForm
			}
			if _, e := group.Read(bittext.Reader(ahead+oneSymbol(symbol)+rest), 0); e != want {
				t.Errorf("code %d, symbol %d: Read: %d", i, symbol, e)
			}
		}
	}
}

// wantRead answers the lengths of each code as chapter 7 reads them in turn.
func wantRead(r *bitin.Reader, cache int) (api.Five, api.Errno) {
	var f api.Five
	for i, n := range wantSizes(cache) {
		list, e := lens.Read(r, n)
		if e != api.OK {
			return api.Five{}, e
		}
		f[i] = list
	}
	return f, api.OK
}

// P18.1: any bits: five by chapter 7, or its error.
func TestReadOfAnyBits(t *testing.T) {
	d := dice(7)
	read := 0
	for i := range 6000 {
		bits := ""
		for range d.below(5) {
			bits += []string{oneSymbol(d.below(40)), "1000", twoSymbols(d.below(40), d.below(20)+50)}[d.below(3)]
		}
		for range d.below(200) {
			bits += bittext.Number(d.below(2), 1)
		}
		cache := i % (api.MaxCache + 1)
		r, again := bittext.Reader(bits), bittext.Reader(bits)
		f, want := wantRead(again, cache)
		g, e := group.Read(r, cache)
		if e != want || (g == nil) != (e != api.OK) || r.Left() != again.Left() || r.Over() != again.Over() {
			t.Fatalf("Read of %s with cache %d: %d, %d bits left; want %d, %d", bits, cache, e, r.Left(), want, again.Left())
		}
		if e != api.OK {
			continue
		}
		read++
		m := modelOf(f)
		for range 20 {
			s := literal(uint32(d.below(90) | d.below(90)<<8 | d.below(90)<<16 | d.below(90)<<24))
			if bits, ok := m.bits(m.parts(s, 3)); ok {
				expectTold(t, g, s, 3, bits)
			} else {
				expectUntold(t, g, s, 3)
			}
		}
	}
	if read < 100 {
		t.Errorf("only %d were groups", read)
	}
}

// P18.2: each code has one symbol: no bits, of a reader without bits too, but not of one that is over.
func TestOneSymbolEach(t *testing.T) {
	for _, cache := range []int{0, 1, 11} {
		sizes := group.Sizes(cache)
		steps := []api.Token{literal(0), literal(0xffffffff), literal(0x12345678)}
		for n := 1; n <= 4; n++ {
			// Codes 1 to 4 in rows of 10.
			for _, dist := range []int{10, 1, 11, 9} {
				steps = append(steps, copied(n, dist))
			}
		}
		if cache > 0 {
			steps = append(steps, known(0), known(1<<cache-1))
		}
		for i, s := range steps {
			var f api.Five
			for code, n := range sizes {
				f[code] = having(n, map[int]int{0: 1 + i%15})
			}
			for _, x := range modelOf(f).parts(s, 10) {
				f[x.code] = having(sizes[x.code], map[int]int{x.symbol: 1 + (i+x.code)%15})
			}
			g := grown(t, f, cache)
			expectTold(t, g, s, 10, "")
			expectUntold(t, g, literal(0x01020304), 10)
			r := bittext.Reader("")
			for range 100 {
				if got, e := g.Step(r, 10); e != api.OK || got != s {
					t.Fatalf("Step = %+v, %d; want %+v", got, e, s)
				}
			}
			for _, r := range []*bitin.Reader{nil, bittext.OverReader()} {
				expectNoStep(t, g, r, 10, api.ErrEnd)
			}
		}
	}
}

// P18.2: with one symbol each only a Copy's own bits are told.
func TestOnlyBitsOfNumbers(t *testing.T) {
	f := api.Five{having(280, map[int]int{256 + 23: 9}), having(256, map[int]int{1: 1}), having(256, map[int]int{1: 1}), having(256, map[int]int{1: 1}), having(40, map[int]int{38: 1})}
	g := grown(t, f, 0)
	expectTold(t, g, copied(3073, 1<<19-119), 7, bare("0000000000 000000000000000000"))
	expectTold(t, g, copied(4096, 1<<19-119), 7, bare("1111111111 000000000000000000"))
	expectTold(t, g, copied(3074, 1<<19+1<<18-120), 7, bare("1000000000 111111111111111111"))
	expectTold(t, g, copied(3585, 1<<19-118), 7, bare("0000000001 100000000000000000"))
	expectUntold(t, g, copied(3072, 1<<19-119), 7)
	expectUntold(t, g, copied(3073, 1<<19-120), 7)
	expectUntold(t, g, copied(3073, 1<<19+1<<18-119), 7)
}

// P18.2: Literals of each number in each of the four.
func TestEachLiteral(t *testing.T) {
	d := dice(256)
	for _, cache := range []int{0, 11} {
		f := api.Five{bittext.Even(wantSizes(cache)[0]), d.parted(256), bittext.Even(256), d.parted(256), bittext.Even(40)}
		slices.Reverse(f[2])
		g, m := grown(t, f, cache), modelOf(f)
		for v := range uint32(256) {
			for shift := 0; shift < 32; shift += 8 {
				s := literal(0x5a17c399&^(255<<shift) | v<<shift)
				if bits, ok := m.bits(m.parts(s, 1)); ok {
					expectTold(t, g, s, 1, bits)
				} else {
					expectUntold(t, g, s, 1)
				}
			}
		}
	}
}

// P18.2: each Len, with some Dists in some widths.
func TestEachLen(t *testing.T) {
	f := evenFive(0)
	g, m := grown(t, f, 0), modelOf(f)
	for n := 1; n <= api.MaxCopy; n++ {
		for i, dist := range []int{1, 2, 7, 100, 121, 5000, api.MaxFar - 1, api.MaxFar} {
			width := []int{1, 2, 8, 100, 16383, 16384}[(n+i)%6]
			bits, _ := m.bits(m.parts(copied(n, dist), width))
			w := bittext.Writer("")
			if !g.Tell(w, copied(n, dist), width) || bittext.Of(w) != bits {
				t.Fatalf("Tell of Len %d, Dist %d: %s; want %s", n, dist, bittext.Of(w), bits)
			}
			if s, e := g.Step(bittext.Reader(bits), width); e != api.OK || s != copied(n, dist) {
				t.Fatalf("Step = %+v, %d; want Len %d, Dist %d", s, e, n, dist)
			}
		}
	}
}

// P18.2: each near Dist, and others, in narrow and wide rows: told by the least code.
func TestDists(t *testing.T) {
	f := evenFive(2)
	g, m := grown(t, f, 2), modelOf(f)
	for _, width := range []int{1, 2, 3, 7, 8, 9, 15, 16, 17, 100, 4096, 16383, 16384} {
		dists := []int{api.MaxFar - 120, api.MaxFar - 1, api.MaxFar, 1<<19 - 120, 1<<19 - 119}
		for dist := 1; dist < 300; dist++ {
			dists = append(dists, dist)
		}
		for y := range 8 {
			for x := -9; x <= 9; x++ {
				dists = append(dists, y*width+x)
			}
		}
		for _, dist := range dists {
			if dist < 1 {
				continue
			}
			s := copied(1+dist%4096, dist)
			bits, _ := m.bits(m.parts(s, width))
			w := bittext.Writer("")
			if !g.Tell(w, s, width) || bittext.Of(w) != bits {
				t.Fatalf("Tell of Dist %d in width %d: %s; want %s", dist, width, bittext.Of(w), bits)
			}
			if got, e := g.Step(bittext.Reader(bits), width); e != api.OK || got != s {
				t.Fatalf("Step in width %d = %+v, %d; want %+v", width, got, e, s)
			}
		}
	}
}

// P18.2: each near code is read, the ones that no Dist is told by too, and others to the last.
func TestCodesOfDistances(t *testing.T) {
	f := evenFive(0)
	g, m := grown(t, f, 0), modelOf(f)
	codes := []int{121, 122, 200, 1 << 12, 1<<19 - 1, 1 << 19, 1<<19 + 1, 1<<20 - 1, 1 << 20}
	for code := range 120 {
		codes = append(codes, code+1)
	}
	for _, width := range []int{1, 2, 5, 8, 16, 1000, 16384} {
		for _, code := range codes {
			bits, _ := m.bits(m.copy(33, code))
			expectStep(t, g, bits, width, copied(33, near.Dist(code, width)))
		}
	}
	// One to the right in the row above, by hand: none ahead in rows of one.
	bits, _ := m.bits(m.copy(33, 4))
	expectStep(t, g, bits, 1, copied(33, 1))
	expectStep(t, g, bits, 2, copied(33, 1))
	expectStep(t, g, bits, 3, copied(33, 2))
	expectStep(t, g, bits, 16384, copied(33, 16383))
}

// P18.2: the first and the last place of each cache, and those that it has not.
func TestPlacesOfTheCache(t *testing.T) {
	for cache := range api.MaxCache + 1 {
		f := evenFive(cache)
		g, m := grown(t, f, cache), modelOf(f)
		wrong := []int{-1, -280, 1 << 11, 1<<32 + 1, math.MaxInt, math.MinInt}
		if cache == 0 {
			wrong = append(wrong, 0, 1, 2)
		} else {
			for _, index := range []int{0, 1, 1<<cache/2 - 1, 1 << cache / 2, 1<<cache - 2, 1<<cache - 1} {
				bits, ok := m.bits(m.parts(known(index), 4))
				if !ok {
					t.Fatal("the model has no code of it")
				}
				expectTold(t, g, known(index), 4, bits)
			}
			wrong = append(wrong, 1<<cache, 1<<cache+1, 2<<cache)
		}
		for _, index := range wrong {
			expectUntold(t, g, known(index), 4)
			if _, ok := group.Count([]api.Token{known(index)}, 4, cache); ok {
				t.Errorf("Count took Index %d with cache %d", index, cache)
			}
		}
	}
}

// P18.2: steps that none of the codes tells, though each symbol has a code.
func TestWrongSteps(t *testing.T) {
	for cache := range api.MaxCache + 1 {
		g := grown(t, evenFive(cache), cache)
		for _, s := range wrongSteps {
			for _, width := range []int{1, 2, 300, 16384} {
				expectUntold(t, g, s, width)
			}
			for at := range 3 {
				list := slices.Insert([]api.Token{literal(7), copied(5, 5)}, at, s)
				if counts, ok := group.Count(list, 300, cache); ok || !empty(counts) {
					t.Errorf("Count took %+v with cache %d", s, cache)
				}
			}
		}
	}
}

func empty(counts [5][]int) bool {
	for _, list := range counts {
		if list != nil {
			return false
		}
	}
	return true
}

// P18.2: widths that may not be: of each Kind, and whatever r has.
func TestWrongWidths(t *testing.T) {
	g := grown(t, evenFive(3), 3)
	for _, width := range wrongWidths {
		for _, s := range append([]api.Token{literal(7), copied(1, 1), copied(5, 200), known(0), known(7)}, wrongSteps...) {
			expectUntold(t, g, s, width)
			if counts, ok := group.Count([]api.Token{s}, width, 3); ok || !empty(counts) {
				t.Errorf("Count took %+v in width %d", s, width)
			}
		}
		for _, r := range []*bitin.Reader{nil, bittext.OverReader(), bittext.Reader(""), bittext.Reader("010101010101010101010101010101010101010101")} {
			left, over := r.Left(), r.Over()
			expectNoStep(t, g, r, width, api.ErrArg)
			if r.Left() != left || r.Over() != over {
				t.Errorf("width %d: bits were read", width)
			}
		}
	}
	for _, width := range []int{1, 2, 16383, 16384} {
		for _, s := range []api.Token{literal(7), copied(1, 1), copied(5, 200), known(7)} {
			if !g.Tell(bittext.Writer(""), s, width) {
				t.Errorf("Tell(%+v, %d)", s, width)
			}
			if _, ok := group.Count([]api.Token{s}, width, 3); !ok {
				t.Errorf("Count of %+v in width %d", s, width)
			}
		}
	}
}

// wantCounts answers how often the model tells each symbol.
func wantCounts(list []api.Token, width, cache int) [5][]int {
	var counts [5][]int
	for i, n := range wantSizes(cache) {
		counts[i] = make([]int, n)
	}
	for _, s := range list {
		for _, x := range (model{}).parts(s, width) {
			counts[x.code][x.symbol]++
		}
	}
	return counts
}

func expectCounts(t *testing.T, what string, list []api.Token, width, cache int, want [5][]int) {
	t.Helper()
	got, ok := group.Count(list, width, cache)
	if !ok {
		t.Errorf("%s: Count in width %d with cache %d = false", what, width, cache)
	}
	for i := range want {
		if !slices.Equal(got[i], want[i]) {
			t.Errorf("%s: Count in width %d with cache %d, code %d = %v; want %v", what, width, cache, i, got[i], want[i])
		}
	}
}

// P18.2: counts by hand.
func TestCountByHand(t *testing.T) {
	list := []api.Token{literal(0xff12349a), literal(0xff563400), copied(1000, 9), copied(769, 80), copied(4, 9), known(1), known(1), known(15), literal(0xff34ff34)}
	want := [5][]int{
		having(296, map[int]int{0x34: 2, 0xff: 1, 256 + 19: 2, 256 + 3: 1, 281: 2, 295: 1}),
		having(256, map[int]int{0x12: 1, 0x56: 1, 0x34: 1}),
		having(256, map[int]int{0x9a: 1, 0x00: 1, 0x34: 1}),
		having(256, map[int]int{0xff: 3}),
		having(40, map[int]int{3: 2, 15: 1}),
	}
	expectCounts(t, "by hand", list, 10, 4, want)
	expectCounts(t, "the model", list, 10, 4, wantCounts(list, 10, 4))
	// In another width 9 has another code: 129.
	want[4] = having(40, map[int]int{14: 2, 15: 1})
	expectCounts(t, "another width", list, 5000, 4, want)
}

// P18.2: of no steps all are 0, in any width; but the cache must be one.
func TestCountOfNothing(t *testing.T) {
	for _, width := range append([]int{1, 2, 16384}, wrongWidths...) {
		for cache := range api.MaxCache + 1 {
			for _, list := range [][]api.Token{nil, {}} {
				expectCounts(t, "nothing", list, width, cache, wantCounts(nil, 1, cache))
			}
		}
		for _, cache := range wrongCaches {
			for _, list := range [][]api.Token{nil, {}, {literal(7)}, {known(0)}, {{}}} {
				if counts, ok := group.Count(list, width, cache); ok || !empty(counts) {
					t.Errorf("Count of %v with cache %d = true", list, cache)
				}
			}
		}
	}
}

// P18.2: what is counted is what Tell tells: so many bits, and those behind the numbers.
func TestCountIsWhatIsTold(t *testing.T) {
	d := dice(99)
	for i := range 60 {
		cache := i % (api.MaxCache + 1)
		width := 1 + d.below(api.MaxSide)
		list := make([]api.Token, d.below(400))
		for k := range list {
			list[k] = d.step(cache)
		}
		counts := wantCounts(list, width, cache)
		expectCounts(t, fmt.Sprint("list ", i), list, width, cache, counts)
		f := evenFive(cache)
		g, m := grown(t, f, cache), modelOf(f)
		w := bittext.Writer("")
		bits := 0
		for _, s := range list {
			if !g.Tell(w, s, width) {
				t.Fatalf("Tell(%+v, %d)", s, width)
			}
			for _, x := range m.parts(s, width) {
				bits += len(x.extra)
			}
		}
		for code, list := range counts {
			for symbol, n := range list {
				bits += n * f[code][symbol]
			}
		}
		if w.Len() != bits {
			t.Errorf("list %d: %d bits; want %d", i, w.Len(), bits)
		}
		r := bitin.New(w.Bytes())
		for _, s := range list {
			if got, e := g.Step(r, width); e != api.OK || got != s {
				t.Fatalf("list %d: Step = %+v, %d; want %+v", i, got, e, s)
			}
		}
	}
}

// P18.2: fields that a step of its Kind does not have are of no account.
func TestOtherFields(t *testing.T) {
	g := grown(t, byHand(), 1)
	list := []api.Token{
		{Kind: api.Literal, Len: -1, Dist: -1, Index: -1, Argb: 0xff12349a},
		{Kind: api.Copy, Len: 1000, Dist: 9, Index: -1, Argb: 7},
		{Kind: api.Known, Len: -1, Dist: 1 << 40, Index: 1, Argb: 7},
	}
	plain := []api.Token{literal(0xff12349a), copied(1000, 9), known(1)}
	for i, s := range list {
		w, want := bittext.Writer(""), bittext.Writer("")
		if !g.Tell(w, s, 10) || !g.Tell(want, plain[i], 10) || bittext.Of(w) != bittext.Of(want) {
			t.Errorf("Tell(%+v): %s; want %s", s, bittext.Of(w), bittext.Of(want))
		}
	}
	expectCounts(t, "other fields", list, 10, 1, wantCounts(plain, 10, 1))
}

// P18.2: a nil group: ErrArg, false. One without codes tells nothing either.
func TestNoGroup(t *testing.T) {
	for _, g := range []*group.Group{nil, new(group.Group)} {
		for _, width := range append([]int{1, 10, 16384}, wrongWidths...) {
			for _, s := range append([]api.Token{literal(0), copied(1, 1), known(0)}, wrongSteps...) {
				expectUntold(t, g, s, width)
				if g.Tell(nil, s, width) {
					t.Errorf("Tell(%+v) to nothing", s)
				}
			}
			for _, r := range []*bitin.Reader{nil, bittext.OverReader(), bittext.Reader(""), bittext.Reader("0110")} {
				left, over := r.Left(), r.Over()
				expectNoStep(t, g, r, width, api.ErrArg)
				if r.Left() != left || r.Over() != over {
					t.Error("bits were read")
				}
			}
		}
	}
}

// P18.2: a nil reader has no bits; a nil writer takes none, even where none are told.
func TestNilReadersAndWriters(t *testing.T) {
	var f api.Five
	for i, n := range group.Sizes(0) {
		f[i] = having(n, map[int]int{0: 1})
	}
	for _, g := range []*group.Group{grown(t, f, 0), grown(t, evenFive(0), 0)} {
		expectNoStep(t, g, nil, 1, api.ErrEnd)
		expectNoStep(t, g, new(bitin.Reader), 0, api.ErrArg)
		if g.Tell(nil, literal(0), 1) {
			t.Error("Tell took a nil writer")
		}
	}
}

// R4: what is handed in stays as it is, and is not kept.
func TestWhatIsHandedIn(t *testing.T) {
	f := byHand()
	for i, list := range f {
		f[i] = append(list, 7, 8, 9)[:len(list)]
	}
	room := func() api.Five {
		all := clone(f)
		for i, list := range f {
			all[i] = slices.Clone(list[:len(list)+3])
		}
		return all
	}
	was := room()
	same := func(what string) {
		for i, list := range room() {
			if !slices.Equal(list, was[i]) {
				t.Errorf("%s changed code %d", what, i)
			}
		}
	}
	g := grown(t, f, 1)
	same("New")
	group.Write(bittext.Writer(""), f, 1)
	same("Write")
	for _, list := range f {
		clear(list)
	}
	for _, c := range toldByHand {
		expectTold(t, g, c.step, c.width, bare(c.bits))
	}
	list := make([]api.Token, len(toldByHand), len(toldByHand)+3)
	for i, c := range toldByHand {
		list[i] = c.step
	}
	before := slices.Clone(list[:cap(list)])
	group.Count(list, 10, 1)
	if !slices.Equal(list[:cap(list)], before) {
		t.Error("Count changed the list")
	}
}

// R4, R5: counts are new memory, and the same when asked again.
func TestCountsAreNew(t *testing.T) {
	list := []api.Token{literal(0x01020304), copied(9, 9), known(3)}
	want := wantCounts(list, 10, 2)
	for range 3 {
		expectCounts(t, "again", list, 10, 2, want)
		counts, _ := group.Count(list, 10, 2)
		for i := range counts {
			all := counts[i][:cap(counts[i])]
			for k := range all {
				all[k] = i + 5
			}
		}
		for i := range counts {
			if slices.ContainsFunc(counts[i], func(n int) bool { return n != i+5 }) {
				t.Errorf("code %d shares its counts", i)
			}
		}
	}
}

// R5: groups do not change by what they read and tell, and are apart from each other.
func TestGroupsAreApart(t *testing.T) {
	d := dice(5)
	first, second := d.partedFive(3), evenFive(3)
	groups := []*group.Group{grown(t, first, 3), grown(t, second, 3), grown(t, first, 3)}
	models := []model{modelOf(first), modelOf(second), modelOf(first)}
	for range 300 {
		s := d.step(3)
		for i, g := range groups {
			if bits, ok := models[i].bits(models[i].parts(s, 50)); ok {
				expectTold(t, g, s, 50, bits)
			} else {
				expectUntold(t, g, s, 50)
			}
		}
	}
}
