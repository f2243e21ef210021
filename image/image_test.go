package image_test

import (
	"fmt"
	"math"
	"slices"
	"testing"

	"marquetry/api"
	"marquetry/bitin"
	"marquetry/bitout"
	"marquetry/group"
	"marquetry/image"
	"marquetry/internal/bittext"
	"marquetry/lens"
	"marquetry/size"
	"marquetry/token"
)

var wrongSides = []int{math.MinInt, math.MinInt + 1, 1 - 1<<32, -16384, -2, -1, 0, 16385, 16386, 32768, 65536, 65537, 1 << 31, 1 << 32, 1<<32 + 1, math.MaxInt - 1, math.MaxInt}

// Bits of no cache; some would be those of one, if they were cut off.
var wrongCaches = []int{math.MinInt, math.MinInt + 4, -1 << 32, 4 - 1<<32, -256, 4 - 256, -12, -11, -2, -1, 12, 13, 16, 31, 32, 63, 64, 255, 256, 260, 1<<16 + 4, 1 << 31, 1 << 32, 1<<32 + 11, math.MaxInt - 1, math.MaxInt}

// Bits of no blocks.
var wrongBits = []int{math.MinInt, math.MinInt + 2, 2 - 1<<32, -256, 2 - 256, -9, -8, -3, -2, -1, 1, 10, 11, 14, 16, 30, 31, 32, 64, 256, 258, 1 << 31, 1 << 32, 1<<32 + 2, math.MaxInt - 1, math.MaxInt}

func literal(argb uint32) api.Token { return api.Token{Kind: api.Literal, Argb: argb} }

func copied(n, dist int) api.Token { return api.Token{Kind: api.Copy, Len: n, Dist: dist} }

func known(index int) api.Token { return api.Token{Kind: api.Known, Index: index} }

func blocks(n, bits int) int { return (n + 1<<bits - 1) / (1 << bits) }

func slot(argb uint32, bits int) int {
	return int(uint64(argb) * 0x1e35a7bd % (1 << 32) / (1 << (32 - bits)))
}

// A teller tells pixels by chapter 17's words, at most so many.
type teller struct {
	pix    []uint32
	places map[int]uint32
	cache  int
	most   int
}

func (x *teller) add(p uint32) {
	x.pix = append(x.pix, p)
	x.places[slot(p, x.cache)] = p
}

func (x *teller) tell(s api.Token) bool {
	left := x.most - len(x.pix)
	switch s.Kind {
	case 1:
		x.add(s.Argb)
	case 2:
		if s.Len < 1 || s.Len > 4096 || s.Len > left || s.Dist < 1 || s.Dist > len(x.pix) {
			return false
		}
		for range s.Len {
			x.add(x.pix[len(x.pix)-s.Dist])
		}
	case 3:
		x.add(x.places[s.Index])
	}
	return left > 0
}

func tellerOf(most, cache int) *teller {
	return &teller{places: map[int]uint32{}, cache: cache, most: most}
}

// told answers the pixels of steps that may be.
func told(list []api.Token, cache int) []uint32 {
	x := tellerOf(1<<28, cache)
	for _, s := range list {
		x.tell(s)
	}
	return x.pix
}

// A picture is an image as the chapter's words have it.
type picture struct {
	w, h, cache int
	main        bool
	bits        int      // 0: one group
	meta        *picture // of the blocks' groups
	fives       []api.Five
	list        []api.Token
}

// number answers a pixel's group.
func (p picture) number(at int, meta []int) int {
	if p.bits == 0 {
		return 0
	}
	return meta[at/p.w/(1<<p.bits)*blocks(p.w, p.bits)+at%p.w/(1<<p.bits)]
}

// numbers answers the number of each block's group.
func (p picture) numbers() []int {
	if p.bits == 0 {
		return nil
	}
	var all []int
	for _, x := range told(p.meta.list, p.meta.cache) {
		all = append(all, int(x>>16&255*256+x>>8&255))
	}
	return all
}

// ahead puts what is ahead of the steps.
func (p picture) ahead(w *bitout.Writer) {
	if w.Bits(uint32(min(p.cache, 1)), 1); p.cache > 0 {
		w.Bits(uint32(p.cache), 4)
	}
	if p.main {
		w.Bits(uint32(min(p.bits, 1)), 1)
	}
	if p.bits > 0 {
		w.Bits(uint32(p.bits-2), 3)
		p.meta.put(w)
	}
	for _, f := range p.fives {
		group.Write(w, f, p.cache)
	}
}

func (p picture) put(w *bitout.Writer) {
	p.ahead(w)
	meta := p.numbers()
	groups := map[int]*group.Group{}
	at := 0
	for _, s := range p.list {
		n := p.number(at, meta)
		if groups[n] == nil {
			groups[n], _ = group.New(p.fives[n], p.cache)
		}
		if !groups[n].Tell(w, s, p.w) {
			panic("a step of the test has no code")
		}
		if at++; s.Kind == api.Copy {
			at += s.Len - 1
		}
	}
}

func (p picture) text() string {
	w := bitout.New()
	p.put(w)
	return bittext.Of(w)
}

// parsed is what the bits of an image tell.
type parsed struct {
	cache, bits int
	meta        []int
	groups      int
	list        []api.Token
	pix         []uint32
}

// parse reads an image by the chapter's words.
func parse(r *bitin.Reader, w, h int, main bool) (parsed, api.Errno) {
	var p parsed
	number := func(n int) int {
		v, _ := r.Bits(n)
		return int(v)
	}
	if number(1) == 1 {
		p.cache = number(4)
		if !r.Over() && (p.cache < 1 || p.cache > 11) {
			return parsed{}, api.ErrForm
		}
	}
	p.groups = 1
	if main && number(1) == 1 {
		p.bits = number(3) + 2
		meta, e := parse(r, blocks(w, p.bits), blocks(h, p.bits), false)
		if e != api.OK {
			return parsed{}, e
		}
		for _, x := range meta.pix {
			p.meta = append(p.meta, int(x>>8)%65536)
		}
		p.groups += slices.Max(p.meta)
	}
	if r.Over() {
		return parsed{}, api.ErrEnd
	}
	return p.steps(r, w, h)
}

func (p parsed) steps(r *bitin.Reader, w, h int) (parsed, api.Errno) {
	groups := make([]*group.Group, p.groups)
	for i := range groups {
		g, e := group.Read(r, p.cache)
		if e != api.OK {
			return parsed{}, e
		}
		groups[i] = g
	}
	like := picture{w: w, h: h, bits: p.bits}
	x := tellerOf(w*h, p.cache)
	for len(x.pix) < w*h {
		s, e := groups[like.number(len(x.pix), p.meta)].Step(r, w)
		if e != api.OK {
			return parsed{}, e
		}
		if !x.tell(s) {
			return parsed{}, api.ErrForm
		}
		p.list = append(p.list, s)
	}
	p.pix = x.pix
	return p, api.OK
}

// evenFive answers lengths by which each symbol has a code.
func evenFive(cache int) api.Five {
	var f api.Five
	for i, n := range group.Sizes(cache) {
		f[i] = bittext.Even(n)
	}
	return f
}

// oneFive answers codes of one symbol each: a Literal of this pixel.
func oneFive(argb uint32, cache int) api.Five {
	var f api.Five
	for i, n := range group.Sizes(cache) {
		f[i] = make([]int, n)
		f[i][[5]uint32{argb >> 8 & 255, argb >> 16 & 255, argb & 255, argb >> 24, 0}[i]] = 1
	}
	return f
}

// tightFive answers lengths of the symbols of these steps alone.
func tightFive(list []api.Token, width, cache int) api.Five {
	counts, _ := group.Count(list, width, cache)
	var f api.Five
	for i, c := range counts {
		c[len(c)-1] += 1 - min(1, slices.Max(c))
		f[i], _ = size.Best(c, api.MaxLen)
	}
	return f
}

// plain answers a picture of one group by which each step has bits.
func plain(w, h, cache int, main bool, list []api.Token) picture {
	return picture{w: w, h: h, cache: cache, main: main, fives: []api.Five{evenFive(cache)}, list: list}
}

// Pseudo-random numbers by a fixed rule.
type dice uint32

func (d *dice) below(n int) int {
	*d = *d*1664525 + 1013904223
	return int(uint32(*d)>>7) % n
}

// steps answers any steps that tell n pixels.
func (d *dice) steps(n, cache int) []api.Token {
	var list []api.Token
	colors := 1 + d.below(9)
	copies := d.below(4)
	for at := 0; at < n; {
		switch kind := d.below(6); {
		case kind < copies && at > 0:
			s := copied(1+d.below(min(n-at, 1<<d.below(13))), 1+d.below(at))
			list = append(list, s)
			at += s.Len
			continue
		case kind == 5 && cache > 0:
			list = append(list, known(d.below(1<<cache)))
		default:
			list = append(list, literal(uint32(d.below(colors))*0x9e3779b9))
		}
		at++
	}
	return list
}

// metaSteps answers any steps that tell n pixels of groups' numbers, some of them the greatest, most.
func (d *dice) metaSteps(n, most int) []api.Token {
	var list []api.Token
	for at := 0; at < n; {
		number := uint32(d.below(most + 1))
		if d.below(3) == 0 {
			number = uint32(most)
		}
		// Alpha and blue are of no account.
		list = append(list, literal(uint32(d.below(256))<<24|number<<8|uint32(d.below(256))))
		at++
		if left := n - at; left > 0 && d.below(2) == 0 {
			s := copied(1+d.below(min(left, 99)), 1+d.below(at))
			list = append(list, s)
			at += s.Len
		}
	}
	return list
}

// partedBy answers the steps of each group.
func (p picture) partedBy(meta []int, groups int) [][]api.Token {
	parts := make([][]api.Token, groups)
	at := 0
	for _, s := range p.list {
		n := p.number(at, meta)
		parts[n] = append(parts[n], s)
		if at++; s.Kind == api.Copy {
			at += s.Len - 1
		}
	}
	return parts
}

// dress gives the picture lengths, by which each of its steps has bits.
func (d *dice) dress(p picture) picture {
	meta := p.numbers()
	groups := slices.Max(append(meta, 0)) + 1
	for _, part := range p.partedBy(meta, groups) {
		f := evenFive(p.cache)
		if d.below(3) > 0 {
			f = tightFive(part, p.w, p.cache)
		}
		p.fives = append(p.fives, f)
	}
	return p
}

// picture answers any picture of these sides, of at most so many groups.
func (d *dice) picture(w, h int, main bool, groups int) picture {
	p := picture{w: w, h: h, main: main}
	p.cache = max(0, d.below(20)-8)
	p.list = d.steps(w*h, p.cache)
	if main && d.below(4) > 0 {
		p.bits = 2 + d.below(8)
		columns, rows := blocks(w, p.bits), blocks(h, p.bits)
		m := d.dress(picture{w: columns, h: rows, list: d.metaSteps(columns*rows, d.below(groups))})
		p.meta = &m
	}
	return d.dress(p)
}

// expectRead holds that the bits are read as these pixels, whatever is behind them.
func expectRead(t *testing.T, what, bits string, w, h int, main bool, want []uint32) {
	t.Helper()
	for _, behind := range []string{"", "1100101"} {
		r := bittext.Reader(bits + behind)
		if pix, e := image.Read(r, w, h, main); e != api.OK || !slices.Equal(pix, want) || r.Left() != len(behind) || r.Over() {
			t.Errorf("%s: Read = %x, %d, %d bits left; want %x, %d left", what, pix, e, r.Left(), want, len(behind))
		}
	}
}

func refuseRead(t *testing.T, what string, r *bitin.Reader, w, h int, main bool, want api.Errno) {
	t.Helper()
	if pix, e := image.Read(r, w, h, main); e != want || pix != nil {
		t.Errorf("%s: Read of %d x %d = %x, %d; want error %d", what, w, h, pix, e, want)
	}
}

// refuseCut holds that the bits are too few, wherever they are cut off.
func refuseCut(t *testing.T, what, bits string, w, h int, main bool) {
	t.Helper()
	for n := 0; n < len(bits); n += 1 + n/500 {
		refuseRead(t, fmt.Sprint(what, ", ", n, " bits"), bittext.Reader(bits[:n]), w, h, main, api.ErrEnd)
	}
}

// refuseForm holds that the bits tell what may not be at their end, and not ahead of it.
func refuseForm(t *testing.T, what, bits string, w, h int, main bool) {
	t.Helper()
	refuseCut(t, what, bits, w, h, main)
	for _, behind := range []string{"", "0", "1", "01101"} {
		refuseRead(t, what, bittext.Reader(bits+behind), w, h, main, api.ErrForm)
	}
}

// one answers the bits of a code of one symbol.
func one(symbol int) string {
	if symbol < 2 {
		return "100" + bittext.Number(symbol, 1)
	}
	return "101" + bittext.Number(symbol, 8)
}

// two answers the bits of a code of two symbols.
func two(a, b int) string {
	if a < 2 {
		return "110" + bittext.Number(a, 1) + bittext.Number(b, 8)
	}
	return "111" + bittext.Number(a, 8) + bittext.Number(b, 8)
}

// P19.1: an image of one colour: five codes of one symbol each, and no bits for its pixels.
func TestOneColour(t *testing.T) {
	for _, argb := range []uint32{0, 1, 0xff000000, 0x12345678, 0xffffffff, 0x01000100} {
		bits := one(int(argb>>8&255)) + one(int(argb>>16&255)) + one(int(argb&255)) + one(int(argb>>24)) + one(0)
		for _, c := range [][2]int{{1, 1}, {2, 1}, {1, 2}, {7, 5}, {16384, 1}, {1, 16384}, {16384, 3}} {
			want := slices.Repeat([]uint32{argb}, c[0]*c[1])
			expectRead(t, "not main", "0"+bits, c[0], c[1], false, want)
			expectRead(t, "main", "00"+bits, c[0], c[1], true, want)
			expectRead(t, "with a cache", "11101"+bits, c[0], c[1], false, want)
			expectRead(t, "main, with a cache", "111010"+bits, c[0], c[1], true, want)
			refuseCut(t, "not main", "0"+bits, c[0], c[1], false)
			refuseCut(t, "main, with a cache", "111010"+bits, c[0], c[1], true)
		}
	}
}

// lengths answers the bits of a code of n symbols of which some have these lengths.
func lengths(n int, having map[int]int) string {
	list := make([]int, n)
	for symbol, length := range having {
		list[symbol] = length
	}
	w := bitout.New()
	lens.Write(w, list)
	return bittext.Of(w)
}

// P19.1: by hand: the five codes of an image that is not main, and of a main one, then steps.
func TestReadByHand(t *testing.T) {
	a, b := uint32(0xff000703), uint32(0xff090703)
	codes := lengths(280, map[int]int{7: 1, 256 + 3: 1}) + two(0, 9) + one(3) + one(255) + two(0, 1)
	// In rows of 4 the first symbol of a distance points right above, the second one to the left.
	above, left := "1"+"0", "1"+"1"
	for _, c := range []struct {
		bits string
		want []uint32
	}{
		{"00" + "01" + "00" + "01" + above, []uint32{a, b, a, b, a, b, a, b}},
		{"01" + left + "00" + "01" + "00", []uint32{b, b, b, b, b, a, b, a}},
		{"00" + "00" + "01" + left + "00", []uint32{a, a, b, b, b, b, b, a}},
	} {
		expectRead(t, "not main", "0"+codes+c.bits, 4, 2, false, c.want)
		expectRead(t, "main", "00"+codes+c.bits, 4, 2, true, c.want)
		refuseCut(t, "not main", "0"+codes+c.bits, 4, 2, false)
		refuseCut(t, "main", "00"+codes+c.bits, 4, 2, true)
	}
}

// P19.1: by hand: a cache of 4 places, of which are told those of a colour, of none yet, and of another one since.
func TestReadByCache(t *testing.T) {
	a, b, c := uint32(0x01000304), uint32(0x01010304), uint32(0x01070304)
	if slot(a, 2) != 3 || slot(b, 2) != 1 || slot(c, 2) != 1 || slot(0, 2) != 0 {
		t.Fatal("the colours have other places")
	}
	codes := lengths(284, map[int]int{3: 2, 280: 2, 281: 2, 283: 2}) + lengths(256, map[int]int{0: 1, 1: 2, 7: 2}) + one(4) + one(1) + one(0)
	literals, places := "00", []string{"01", "10", "-", "11"}
	bits := codes + places[0] + literals + "0" + places[3] + literals + "10" + places[1] + literals + "11" + places[1] + places[3]
	want := []uint32{0, a, a, b, b, c, c, a}
	for _, cache := range []string{"1" + "0100", "1" + "01000"} {
		main := len(cache) == 6
		expectRead(t, "with a cache", cache+bits, 2, 4, main, want)
		refuseCut(t, "with a cache", cache+bits, 2, 4, main)
	}
}

// P19.1: by hand: blocks of two groups, the second row of them the other way round.
func TestReadGroupsByHand(t *testing.T) {
	a, b, c := uint32(0xff000000), uint32(0xff000100), uint32(0xff000500)
	meta := "0" + two(0, 1) + one(0) + one(0) + one(0) + one(0) + "0110"
	first := two(0, 1) + one(0) + one(0) + one(255) + one(0)
	second := two(1, 5) + one(0) + one(0) + one(255) + one(0)
	bits := "0" + "1" + "000" + meta + first + second +
		"0001" + "01" + "1000" + "01" + "0000" + "11" + "0000" + "11" +
		"0110" + "10"
	want := []uint32{
		a, a, a, b, b, c,
		b, a, a, a, b, c,
		a, a, a, a, c, c,
		a, a, a, a, c, c,
		b, c, c, b, b, a,
	}
	expectRead(t, "two groups", bits, 6, 5, true, want)
	refuseCut(t, "two groups", bits, 6, 5, true)
}

// P19.1: any pictures: pixels, and just their bits; if one is missing, ErrEnd.
func TestReadPictures(t *testing.T) {
	d := dice(191)
	for i := range 400 {
		p := d.picture(1+d.below(20), 1+d.below(20), i%2 == 0, 9)
		bits := p.text()
		what := fmt.Sprint("picture ", i)
		expectRead(t, what, bits, p.w, p.h, p.main, told(p.list, p.cache))
		if i < 40 {
			refuseCut(t, what, bits, p.w, p.h, p.main)
		}
	}
}

// P19.1: each number of bits of blocks, in images of a block and a pixel more or less.
func TestReadBlocks(t *testing.T) {
	d := dice(192)
	for bits := 2; bits <= 9; bits++ {
		side := 1 << bits
		for _, c := range [][2]int{{1, 1}, {side - 1, 1}, {side, 1}, {side + 1, 2}, {2*side + 1, 1}, {1, side}, {2, side + 1}, {1, 3*side + 1}, {3*side + 3, 3}} {
			p := picture{w: c[0], h: c[1], main: true, bits: bits, list: d.steps(c[0]*c[1], 0)}
			columns, rows := blocks(p.w, bits), blocks(p.h, bits)
			m := d.dress(picture{w: columns, h: rows, list: d.metaSteps(columns*rows, 5)})
			p.meta = &m
			expectRead(t, fmt.Sprint("blocks of ", bits, " bits"), d.dress(p).text(), p.w, p.h, true, told(p.list, 0))
		}
	}
}

// numbered answers a main picture of 8 x 1 pixels with two blocks, of these groups' numbers.
func numbered(a, b int, list []api.Token) picture {
	m := plain(2, 1, 0, false, []api.Token{literal(0xaa0000bb | uint32(a)<<8), literal(0x330000cc | uint32(b)<<8)})
	return picture{w: 8, h: 1, main: true, bits: 2, meta: &m, list: list}
}

// P19.1: as many groups as the greatest number, and 1, those of no block as well: by red and green alone.
func TestReadManyGroups(t *testing.T) {
	list := []api.Token{literal(7), copied(3, 1), literal(9), literal(7), copied(2, 1)}
	for _, c := range [][2]int{{0, 0}, {0, 1}, {1, 1}, {5, 2}, {63, 0}, {64, 3}, {255, 1}, {0, 256}, {256, 255}, {300, 0x102}, {0x1234, 0x3412}} {
		p := numbered(c[0], c[1], list)
		for range max(c[0], c[1]) + 1 {
			p.fives = append(p.fives, oneFive(1, 0))
		}
		p.fives[c[0]], p.fives[c[1]] = evenFive(0), evenFive(0)
		what := fmt.Sprint("groups ", c)
		bits := p.text()
		expectRead(t, what, bits, 8, 1, true, told(list, 0))
		// Without its last group it is another thing.
		p.fives = p.fives[:len(p.fives)-1]
		w := bitout.New()
		p.ahead(w)
		refuseRead(t, what, bittext.Reader(bittext.Of(w)), 8, 1, true, api.ErrEnd)
	}
}

// P19.1: the greatest number that can be told.
func TestReadMostGroups(t *testing.T) {
	p := numbered(65535, 65534, nil)
	w := bitout.New()
	p.ahead(w)
	for n := range 65536 {
		w.Join(bittext.Writer(one(n&255) + one(1) + one(2) + one(3) + one(4)))
	}
	want := append(slices.Repeat([]uint32{0x0301ff02}, 4), slices.Repeat([]uint32{0x0301fe02}, 4)...)
	bits := bittext.Of(w)
	r := bittext.Reader(bits)
	if pix, e := image.Read(r, 8, 1, true); e != api.OK || !slices.Equal(pix, want) || r.Left() != 0 {
		t.Errorf("Read = %x, %d, %d bits left; want %x", pix, e, r.Left(), want)
	}
	refuseRead(t, "most groups", bittext.Reader(bits[:len(bits)-1]), 8, 1, true, api.ErrEnd)
}

// P19.1: sides that may not be: ErrArg, ahead of all, and nothing is read.
func TestWrongSides(t *testing.T) {
	bits := plain(1, 1, 0, true, []api.Token{literal(5)}).text()
	try := func(w, h int) {
		t.Helper()
		for _, main := range []bool{true, false} {
			for _, r := range []*bitin.Reader{nil, bittext.OverReader(), bittext.Reader(""), bittext.Reader("11111"), bittext.Reader(bits)} {
				left, over := r.Left(), r.Over()
				refuseRead(t, "sides", r, w, h, main, api.ErrArg)
				if r.Left() != left || r.Over() != over {
					t.Error("bits were read")
				}
			}
			expectUnwritten(t, []api.Token{literal(5)}, w, h, 0, 0, nil, main)
			expectUnwritten(t, nil, w, h, 0, 0, nil, main)
		}
	}
	for _, n := range wrongSides {
		for _, other := range append([]int{1, 5, 16384}, wrongSides...) {
			try(n, other)
			try(other, n)
		}
	}
}

// P19.1: without bits there is nothing to read.
func TestNoBits(t *testing.T) {
	for _, main := range []bool{true, false} {
		for _, r := range []*bitin.Reader{nil, new(bitin.Reader), bittext.OverReader(), bittext.Reader("")} {
			refuseRead(t, "no bits", r, 1, 1, main, api.ErrEnd)
			refuseRead(t, "no bits", r, 16384, 16384, main, api.ErrEnd)
		}
	}
}

// P19.1: cache bits that may not be: in an image, and in the one of its groups.
func TestCacheBits(t *testing.T) {
	for cache := range 16 {
		bits := "1" + bittext.Number(cache, 4)
		for _, ahead := range []string{"", "01" + "000"} {
			main := ahead != ""
			if cache >= 1 && cache <= api.MaxCache {
				refuseRead(t, "cache", bittext.Reader(ahead+bits), 5, 5, main, api.ErrEnd)
				continue
			}
			refuseForm(t, fmt.Sprint("cache of ", cache), ahead+bits, 5, 5, main)
			refuseForm(t, fmt.Sprint("cache of ", cache), bits, 5, 5, true)
		}
		if cache >= 1 && cache <= api.MaxCache {
			list := []api.Token{literal(3), known(1), known(1<<cache - 1), literal(4)}
			for _, main := range []bool{true, false} {
				expectRead(t, "cache", plain(2, 2, cache, main, list).text(), 2, 2, main, told(list, cache))
			}
		}
	}
}

// P19.1: lengths that may not be: in each code of each group, and in the image of groups.
func TestLengthsThatMayNotBe(t *testing.T) {
	// All lengths 0; the second symbol as the first; a code of lengths without symbols, and one that is too full; steps of more than there are.
	wrong := []string{
		two(7, 7),
		"0" + bittext.Number(0, 4) + "000000000000",
		"0" + bittext.Number(0, 4) + "100100100000",
		"0" + bittext.Number(0, 4) + "000000100000" + "1" + "111" + bittext.Number(1<<16-1, 16),
	}
	for _, bits := range wrong {
		for i := range 5 {
			ahead := "0"
			for range i {
				ahead += one(1)
			}
			refuseForm(t, fmt.Sprint("code ", i), ahead+bits, 3, 3, false)
			refuseForm(t, fmt.Sprint("main, code ", i), "0"+ahead+bits, 3, 3, true)
			refuseForm(t, fmt.Sprint("groups, code ", i), "0"+"1"+"000"+ahead+bits, 3, 3, true)
			for groups := range 3 {
				w := bitout.New()
				p := numbered(0, 2, nil)
				for range groups {
					p.fives = append(p.fives, evenFive(0))
				}
				p.ahead(w)
				refuseForm(t, fmt.Sprint("group ", groups, ", code ", i), bittext.Of(w)+ahead[1:]+bits, 8, 1, true)
			}
		}
	}
	// A distance has 40 symbols.
	ahead := "0" + one(0) + one(0) + one(0) + one(0)
	refuseForm(t, "a distance", ahead+one(40), 3, 3, false)
	expectRead(t, "a distance", ahead+one(39), 3, 3, false, make([]uint32, 9))
}

// P19.1: steps that may not be, each behind others that may.
func TestStepsThatMayNotBe(t *testing.T) {
	for _, main := range []bool{true, false} {
		for _, c := range []struct {
			list []api.Token
			w, h int
		}{
			{[]api.Token{copied(1, 1)}, 1, 1},
			{[]api.Token{copied(1, 1)}, 3, 3},
			{[]api.Token{literal(1), copied(1, 2)}, 3, 3},
			{[]api.Token{literal(1), copied(1, api.MaxFar)}, 3, 3},
			{[]api.Token{literal(1), copied(9, 1)}, 3, 3},
			{[]api.Token{literal(1), copied(4096, 1)}, 3, 3},
			{[]api.Token{literal(1), copied(7, 1), copied(2, 1)}, 3, 3},
			{[]api.Token{literal(1), copied(7, 1), copied(1, 9)}, 3, 3},
			{[]api.Token{literal(1), literal(2), literal(3), copied(2, 4)}, 1, 9},
			{[]api.Token{literal(1), copied(4096, 1), copied(4096, 1)}, 8192, 1},
		} {
			refuseForm(t, fmt.Sprintf("%+v", c.list), plain(c.w, c.h, 0, main, c.list).text(), c.w, c.h, main)
		}
	}
	// In the image of groups.
	for _, list := range [][]api.Token{{copied(1, 1)}, {literal(1), copied(2, 1)}, {literal(1), copied(1, 2)}} {
		bits := plain(2, 1, 0, false, list).text()
		refuseForm(t, fmt.Sprintf("groups %+v", list), "0"+"1"+"000"+bits, 8, 1, true)
	}
}

// P19.1: each step is by the group of the block in which its first pixel lies, whatever it copies beyond.
func TestReadCopiesAcrossBlocks(t *testing.T) {
	m := plain(2, 2, 0, false, []api.Token{literal(0x000), literal(0x100), literal(0x200), literal(0x300)})
	// Each of the steps is of one group alone: no other one has a code for it.
	list := []api.Token{literal(1), copied(4, 1), literal(0x200), copied(6, 3), literal(0x300), literal(0x100), copied(24, 7), literal(5), literal(0x400), copied(20, 5), literal(0x700), copied(3, 1)}
	p := dice(0).dressed(picture{w: 8, h: 8, main: true, bits: 2, meta: &m, list: list})
	n := len(told(list, 0))
	if n != 64 {
		t.Fatal(n)
	}
	expectRead(t, "copies across blocks", p.text(), 8, 8, true, told(list, 0))
	refuseCut(t, "copies across blocks", p.text(), 8, 8, true)
}

// dressed gives the picture lengths of just the symbols of its groups' steps.
func (d dice) dressed(p picture) picture {
	meta := p.numbers()
	for _, part := range p.partedBy(meta, slices.Max(meta)+1) {
		p.fives = append(p.fives, tightFive(part, p.w, p.cache))
	}
	return p
}

// P19.1, R2: bits of any kind: the pixels or the error that the chapter's words have.
func TestReadAnyBits(t *testing.T) {
	d := dice(193)
	errors := map[api.Errno]int{}
	for i := range 3000 {
		p := d.picture(1+d.below(12), 1+d.below(12), d.below(3) > 0, 4)
		bits := []byte(p.text())
		for range d.below(4) {
			bits[d.below(len(bits))] ^= 1
		}
		if d.below(4) == 0 {
			bits = bits[:d.below(len(bits))]
		}
		w, h := p.w, p.h
		if d.below(5) == 0 {
			w, h = 1+d.below(12), 1+d.below(12)
		}
		main := p.main != (d.below(9) == 0)
		first, second := bittext.Reader(string(bits)), bittext.Reader(string(bits))
		want, e := parse(first, w, h, main)
		got, gotError := image.Read(second, w, h, main)
		errors[e]++
		if gotError != e || !slices.Equal(got, want.pix) || second.Left() != first.Left() || second.Over() != first.Over() {
			t.Errorf("bits %d: Read = %x, %d, %d bits left; want %x, %d, %d left", i, got, gotError, second.Left(), want.pix, e, first.Left())
		}
	}
	if min(errors[api.OK], errors[api.ErrEnd], errors[api.ErrForm]) < 200 {
		t.Error("too few of one kind:", errors)
	}
}

// written answers the bits that Write puts behind others.
func written(t *testing.T, list []api.Token, w, h, cache, bits int, meta []int, main bool) string {
	t.Helper()
	text := ""
	for _, ahead := range []string{"", "10110"} {
		o := bittext.Writer(ahead)
		if !image.Write(o, list, w, h, cache, bits, meta, main) {
			t.Fatalf("Write of %d steps, %d x %d, cache %d, bits %d was not taken", len(list), w, h, cache, bits)
		}
		all := bittext.Of(o)
		if all[:len(ahead)] != ahead {
			t.Errorf("Write changed what was ahead: %s; want %s", all[:len(ahead)], ahead)
		}
		text = all[len(ahead):]
	}
	return text
}

// expectWritten holds that the steps are written as which they are, and read as the pixels that they tell.
func expectWritten(t *testing.T, list []api.Token, w, h, cache, bits int, meta []int, main bool) {
	t.Helper()
	text := written(t, list, w, h, cache, bits, meta, main)
	want, e := token.Expand(list, w*h, cache)
	if e != api.OK {
		t.Fatal("Expand", e)
	}
	expectRead(t, fmt.Sprintf("written %d x %d, cache %d, bits %d", w, h, cache, bits), text, w, h, main, want)
	r := bittext.Reader(text)
	p, e := parse(r, w, h, main)
	if e != api.OK || r.Left() != 0 || p.cache != cache || p.bits != bits || !slices.Equal(p.pix, want) {
		t.Errorf("written %d x %d: cache %d, bits %d, error %d, %d left; want %d, %d", w, h, p.cache, p.bits, e, r.Left(), cache, bits)
	}
	if bits > 0 && (!slices.Equal(p.meta, meta) || p.groups != slices.Max(meta)+1) {
		t.Errorf("written %d x %d, bits %d: groups %v; want %v", w, h, bits, p.meta, meta)
	}
}

// expectUnwritten holds that nothing is put.
func expectUnwritten(t *testing.T, list []api.Token, w, h, cache, bits int, meta []int, main bool) {
	t.Helper()
	for _, ahead := range []string{"", "1", "01101001"} {
		o := bittext.Writer(ahead)
		if image.Write(o, list, w, h, cache, bits, meta, main) || bittext.Of(o) != ahead {
			t.Errorf("Write of %d steps, %d x %d, cache %d, bits %d, %d blocks, %v was taken, or put %d bits", len(list), w, h, cache, bits, len(meta), main, o.Len()-len(ahead))
		}
	}
}

// numbers answers n numbers of groups, the greatest of them most.
func (d *dice) numbers(n, most int) []int {
	list := make([]int, n)
	for i := range list {
		list[i] = d.below(most + 1)
	}
	list[d.below(n)] = most
	return list
}

// P19.2: an image of one pixel: no bits for it.
func TestWriteOnePixel(t *testing.T) {
	list := []api.Token{literal(0x12345678)}
	for cache := range api.MaxCache + 1 {
		expectWritten(t, list, 1, 1, cache, 0, nil, true)
		expectWritten(t, list, 1, 1, cache, 0, nil, false)
	}
	for bits := 2; bits <= 9; bits++ {
		for _, number := range []int{0, 1, 62, 63} {
			expectWritten(t, list, 1, 1, 0, bits, []int{number}, true)
		}
	}
	// The same again and again: one step, then copies.
	expectWritten(t, []api.Token{literal(0x12345678), copied(4096, 1), copied(4096, 4096), copied(807, 1)}, 90, 100, 0, 0, nil, true)
}

// P19.2: any steps, with each cache, main or not.
func TestWrite(t *testing.T) {
	d := dice(194)
	for i := range 300 {
		w, h, cache := 1+d.below(30), 1+d.below(30), i%12
		list := d.steps(w*h, cache)
		expectWritten(t, list, w, h, cache, 0, nil, true)
		expectWritten(t, list, w, h, cache, 0, nil, false)
		// Without blocks meta is of no account.
		expectWritten(t, list, w, h, cache, 0, []int{-1, 64, 5}, i%2 == 0)
	}
}

// P19.2: groups by blocks of each number of bits: of one group, of all 64, of those that no block uses.
func TestWriteGroups(t *testing.T) {
	d := dice(195)
	for bits := 2; bits <= 9; bits++ {
		side := 1 << bits
		for _, c := range [][2]int{{1, 1}, {side, side}, {side + 1, side - 1}, {3*side + 1, 2}, {1, 2*side + 1}, {2*side - 1, side + 1}} {
			w, h := c[0], c[1]
			n := blocks(w, bits) * blocks(h, bits)
			for _, most := range []int{0, 1, 2, 17, 63} {
				cache := max(0, d.below(16)-4)
				expectWritten(t, d.steps(w*h, cache), w, h, cache, bits, d.numbers(n, most), true)
			}
			expectWritten(t, d.steps(w*h, 0), w, h, 0, bits, slices.Repeat([]int{9}, n), true)
		}
	}
	// Each of the 64 groups has a block of its own.
	for _, cache := range []int{0, 1, 11} {
		rising := make([]int, 64)
		for i := range rising {
			rising[i] = 63 - i*5&63
		}
		expectWritten(t, d.steps(32*32, cache), 32, 32, cache, 2, rising, true)
		expectWritten(t, d.steps(29*30, cache), 29, 30, cache, 2, rising, true)
	}
}

// P19.2: each step is by the group of the block in which its first pixel lies.
func TestWriteCopiesAcrossBlocks(t *testing.T) {
	list := []api.Token{literal(1), copied(4, 1), literal(0x200), copied(6, 3), literal(0x300), literal(0x100), copied(24, 7), literal(5), literal(0x400), copied(20, 5), literal(0x700), copied(3, 1)}
	expectWritten(t, list, 8, 8, 0, 2, []int{0, 1, 2, 3}, true)
	expectWritten(t, list, 8, 8, 3, 2, []int{3, 1, 0, 3}, true)
	expectWritten(t, list, 64, 1, 0, 2, []int{0, 7, 1, 7, 2, 7, 3, 7, 0, 1, 2, 3, 4, 5, 6, 7}, true)
	expectWritten(t, list, 1, 64, 0, 2, []int{0, 7, 1, 7, 2, 7, 3, 7, 0, 1, 2, 3, 4, 5, 6, 7}, true)
	expectWritten(t, list, 2, 32, 11, 3, []int{0, 1, 0, 2}, true)
}

// long answers steps of n pixels, most of them copies.
func long(n int) []api.Token {
	list := []api.Token{literal(0xff010203), literal(0xff040506)}
	at := 2
	for at < n {
		s := copied(min(n-at, api.MaxCopy), min(1+at/3, api.MaxFar))
		list = append(list, s)
		at += s.Len
	}
	return list
}

// P19.1, P19.2: the longest sides.
func TestLongestSides(t *testing.T) {
	d := dice(196)
	for _, c := range [][2]int{{16384, 1}, {1, 16384}, {16384, 4}, {3, 16384}} {
		w, h := c[0], c[1]
		list := d.steps(w*h, 0)
		expectWritten(t, list, w, h, 0, 0, nil, true)
		expectWritten(t, list, w, h, 5, 0, nil, false)
		expectWritten(t, list, w, h, 0, 9, d.numbers(blocks(w, 9)*blocks(h, 9), 63), true)
		expectWritten(t, list, w, h, 11, 2, d.numbers(blocks(w, 2)*blocks(h, 2), 63), true)
	}
	// 65 and 257 rows: other numbers of blocks.
	expectWritten(t, long(16384*65), 16384, 65, 0, 6, d.numbers(256*2, 3), true)
	expectWritten(t, long(257*16384), 257, 16384, 0, 8, d.numbers(2*64, 3), true)
}

// P19.2: the farthest copy there is, and the one beyond it.
func TestFarthestCopy(t *testing.T) {
	w, h := 1031, 1020
	list := long(api.MaxFar + 1)
	for _, c := range []struct {
		dist int
		ok   bool
	}{{api.MaxFar - 1, true}, {api.MaxFar, true}, {api.MaxFar + 1, false}} {
		rest := w*h - api.MaxFar - 2
		all := append(slices.Clip(list), copied(1, c.dist), copied(rest, c.dist))
		if !c.ok {
			expectUnwritten(t, all, w, h, 0, 0, nil, true)
			expectUnwritten(t, all, w, h, 0, 0, nil, false)
			expectUnwritten(t, all, w, h, 7, 9, make([]int, 6), true)
			continue
		}
		expectWritten(t, all, w, h, 0, 0, nil, true)
		expectWritten(t, all, w, h, 0, 9, []int{0, 1, 2, 3, 4, 5}, true)
	}
	// Of a Literal there is no Dist.
	expectWritten(t, []api.Token{{Kind: api.Literal, Argb: 5, Dist: api.MaxFar + 1}}, 1, 1, 0, 0, nil, true)
}

// P19.2: steps that Expand does not take, or that tell another number of pixels.
func TestStepsThatAreNotWritten(t *testing.T) {
	good := []api.Token{literal(1), literal(2), copied(3, 2), known(1), literal(3), copied(2, 1)}
	expectWritten(t, good, 3, 3, 2, 0, nil, true)
	for _, s := range []api.Token{
		{}, {Kind: 4, Len: 1, Dist: 1}, {Kind: -1, Len: 1, Dist: 1}, {Kind: 1<<32 + 1, Len: 1, Dist: 1},
		copied(0, 1), copied(-1, 1), copied(4097, 1), copied(math.MinInt, 1), copied(math.MaxInt, 1), copied(1<<32+1, 1),
		copied(1, 0), copied(1, -1), copied(1, 9), copied(1, math.MinInt), copied(1, math.MaxInt), copied(1, 1<<32+1),
		known(-1), known(4), known(2048), known(math.MinInt), known(math.MaxInt), known(1 << 32),
	} {
		for i := range len(good) + 1 {
			bad := slices.Insert(slices.Clone(good), i, s)
			for _, h := range []int{3, 4} {
				expectUnwritten(t, bad, 3, h, 2, 0, nil, true)
				expectUnwritten(t, bad, 3, h, 2, 0, nil, false)
				expectUnwritten(t, bad, 3, h, 2, 2, []int{1}, true)
			}
		}
	}
	for _, c := range [][2]int{{2, 4}, {3, 2}, {10, 1}, {3, 4}, {1, 1}, {16384, 16384}} {
		expectUnwritten(t, good, c[0], c[1], 2, 0, nil, true)
	}
	expectUnwritten(t, nil, 1, 1, 0, 0, nil, true)
	// Without a cache, or a lesser one, there are no such places.
	expectUnwritten(t, good, 3, 3, 0, 0, nil, true)
	expectUnwritten(t, []api.Token{known(2)}, 1, 1, 1, 0, nil, false)
	expectWritten(t, []api.Token{known(2)}, 1, 1, 2, 0, nil, false)
}

// P19.2: caches, bits and meta that may not be.
func TestWrongArguments(t *testing.T) {
	list := []api.Token{literal(1), copied(29, 1)}
	for _, cache := range wrongCaches {
		expectUnwritten(t, list, 6, 5, cache, 0, nil, true)
		expectUnwritten(t, list, 6, 5, cache, 0, nil, false)
		expectUnwritten(t, list, 6, 5, cache, 2, make([]int, 4), true)
	}
	for _, bits := range wrongBits {
		for _, n := range []int{0, 1, 2, 4, 8, 9, 12, 30} {
			expectUnwritten(t, list, 6, 5, 0, bits, make([]int, n), true)
			expectUnwritten(t, list, 6, 5, 0, bits, make([]int, n), false)
		}
	}
	for bits := 2; bits <= 9; bits++ {
		n := blocks(6, bits) * blocks(5, bits)
		expectWritten(t, list, 6, 5, 0, bits, make([]int, n), true)
		expectUnwritten(t, list, 6, 5, 0, bits, make([]int, n), false)
		for other := range 12 {
			if other != n {
				expectUnwritten(t, list, 6, 5, 0, bits, make([]int, other), true)
			}
		}
		for i := range n {
			for _, number := range []int{math.MinInt, -1 << 32, -256, -64, -1, 64, 65, 255, 256, 1 << 16, 1 << 32, 1<<32 + 1, math.MaxInt} {
				meta := make([]int, n)
				meta[i] = number
				expectUnwritten(t, list, 6, 5, 0, bits, meta, true)
			}
		}
	}
	if image.Write(nil, list, 6, 5, 0, 0, nil, true) || image.Write(nil, list, 6, 5, 0, 0, nil, false) {
		t.Error("Write to nothing was taken")
	}
}

// P19.2: fields that a step of its Kind does not have are of no account.
func TestOtherFields(t *testing.T) {
	list := []api.Token{
		{Kind: api.Literal, Len: 7, Dist: -1, Index: -1, Argb: 9},
		{Kind: api.Copy, Len: 5, Dist: 1, Index: 99, Argb: 7},
		{Kind: api.Known, Len: 7, Dist: -1, Index: 1, Argb: 7},
		{Kind: api.Literal, Len: -7, Argb: 4},
	}
	plain := []api.Token{literal(9), copied(5, 1), known(1), literal(4)}
	for bits, meta := range map[int][]int{0: nil, 2: {1, 0}} {
		expectWritten(t, list, 8, 1, 1, bits, meta, true)
		if got, want := written(t, list, 8, 1, 1, bits, meta, true), written(t, plain, 8, 1, 1, bits, meta, true); got != want {
			t.Errorf("bits %s; want %s", got, want)
		}
	}
}

// P19.1, P19.2: images one behind the other.
func TestOneBehindTheOther(t *testing.T) {
	d := dice(197)
	o := bitout.New()
	var lists [][]api.Token
	for i := range 40 {
		list := d.steps(63, i%4)
		lists = append(lists, list)
		if !image.Write(o, list, 9, 7, i%4, i%2*2, d.numbers(6, 4), i%2 == 1) {
			t.Fatal("Write", i)
		}
	}
	r := bittext.Reader(bittext.Of(o))
	for i, list := range lists {
		if pix, e := image.Read(r, 9, 7, i%2 == 1); e != api.OK || !slices.Equal(pix, told(list, i%4)) {
			t.Fatalf("image %d: %x, %d", i, pix, e)
		}
	}
	if r.Left() != 0 {
		t.Error(r.Left(), "bits left")
	}
}

// R4: what is handed in stays as it is, spare room as well; what is answered is new memory.
func TestWhatIsHandedIn(t *testing.T) {
	d := dice(198)
	list := append(d.steps(64, 3), known(7), known(8))
	meta := []int{3, 0, 1, 2, 77, 78}
	wasList, wasMeta := slices.Clone(list), slices.Clone(meta)
	o := bitout.New()
	if !image.Write(o, list[:len(list)-2], 8, 8, 3, 2, meta[:4], true) || !slices.Equal(list, wasList) || !slices.Equal(meta, wasMeta) {
		t.Error("Write changed what was handed in")
	}
	first, _ := image.Read(bitin.New(o.Bytes()), 8, 8, true)
	want := slices.Clone(first)
	second, _ := image.Read(bitin.New(o.Bytes()), 8, 8, true)
	clear(first[:cap(first)])
	if !slices.Equal(second, want) {
		t.Error("two answers share memory")
	}
}

// R5: the same, asked again.
func TestAgain(t *testing.T) {
	d := dice(199)
	list, meta := d.steps(400, 4), d.numbers(25, 9)
	want := written(t, list, 20, 20, 4, 2, meta, true)
	for range 5 {
		image.Read(bittext.Reader(want[:len(want)/2]), 20, 20, true)
		image.Write(bitout.New(), d.steps(30, 2), 5, 6, 2, 0, nil, false)
		if got := written(t, list, 20, 20, 4, 2, meta, true); got != want {
			t.Error("Write put other bits")
		}
	}
}
