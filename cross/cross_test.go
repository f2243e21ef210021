package cross_test

import (
	"math"
	"slices"
	"testing"

	"marquetry/api"
	"marquetry/cross"
)

// Sides that whole blocks cover, and sides that they do not.
var sides = [][2]int{{1, 1}, {2, 1}, {1, 2}, {4, 4}, {5, 1}, {1, 5}, {8, 8}, {9, 7}, {7, 9}, {16, 4}, {4, 16}, {17, 15}, {33, 1}, {1, 33}, {33, 30}, {64, 3}, {3, 65}}

// Bits that may not be, and those that might be if they were cut off to fewer bits.
var wrongBits = []int{-1, -2, -9, 0, 1, 10, 11, 16, 30, 31, 32, 63, 64, 64 + 2, 256 + 2, 1<<16 + 3, 1<<32 + 2, -1<<32 + 2, math.MaxInt, math.MinInt, math.MinInt + 2}

// Numbers of an element, or of a colour, at their ends and around what is special.
var edges = []int8{-128, -127, -65, -64, -33, -32, -31, -16, -2, -1, 0, 1, 2, 15, 16, 31, 32, 33, 63, 64, 65, 126, 127}

// sample answers n pixels by a fixed rule.
func sample(n int) []uint32 {
	list := make([]uint32, n)
	x := uint32(1414)
	for i := range list {
		x = x*1664525 + 1013904223
		list[i] = x ^ x>>13
	}
	return list
}

func imageOf(w, h int) api.Image {
	return api.Image{W: w, H: h, Pix: sample(w * h)}
}

// starts answers where the blocks of one side start, one block after the other.
func starts(side, bits int) []int {
	var list []int
	for at := 0; at < side; at += int(math.Pow(2, float64(bits))) {
		list = append(list, at)
	}
	return list
}

func blockCount(m api.Image, bits int) int {
	return len(starts(m.W, bits)) * len(starts(m.H, bits))
}

// elementsOf answers n elements by a fixed rule, each other than the next; now and then the empty one.
func elementsOf(n, first int) []api.Element {
	list := make([]api.Element, n)
	for i, x := range sample(first + n)[first:] {
		if (first+i)%7 != 3 {
			list[i] = api.Element{GreenRed: int8(x >> 20), GreenBlue: int8(x >> 12), RedBlue: int8(x >> 4)}
		}
	}
	return list
}

func elementsFor(m api.Image, bits, first int) []api.Element {
	return elementsOf(blockCount(m, bits), first)
}

// signed answers a byte as a number from -128 to 127.
func signed(v uint32) int {
	if v %= 256; v > 127 {
		return int(v) - 256
	}
	return int(v)
}

func wantDelta(t, c int) int {
	return int(math.Floor(float64(t*c) / 32))
}

// round answers n as a byte, round at 256.
func round(n int) uint32 {
	return uint32((n%256 + 256) % 256)
}

// wantPixel answers the pixel that Forth makes of one pixel.
func wantPixel(p uint32, e api.Element) uint32 {
	red, green, blue := signed(p>>16), signed(p>>8), signed(p)
	r := round(red - wantDelta(int(e.GreenRed), green))
	b := round(blue - wantDelta(int(e.GreenBlue), green) - wantDelta(int(e.RedBlue), red))
	return p&0xff00ff00 | r<<16 | b
}

// wantForth goes block by block, in their order, and does all of a block's pixels by its element.
func wantForth(m api.Image, bits int, list []api.Element) api.Image {
	want := api.Image{W: m.W, H: m.H, Pix: make([]uint32, len(m.Pix))}
	side := int(math.Pow(2, float64(bits)))
	number := 0
	for _, top := range starts(m.H, bits) {
		for _, left := range starts(m.W, bits) {
			for y := top; y < min(top+side, m.H); y++ {
				for x := left; x < min(left+side, m.W); x++ {
					want.Pix[y*m.W+x] = wantPixel(m.Pix[y*m.W+x], list[number])
				}
			}
			number++
		}
	}
	return want
}

func same(m, n api.Image) bool {
	return m.W == n.W && m.H == n.H && slices.Equal(m.Pix, n.Pix)
}

// firstOther answers the place of the first pixel that differs, for what is told.
func firstOther(m, n api.Image) int {
	for i := range min(len(m.Pix), len(n.Pix)) {
		if m.Pix[i] != n.Pix[i] {
			return i
		}
	}
	return min(len(m.Pix), len(n.Pix))
}

func expectForth(t *testing.T, m api.Image, bits int, list []api.Element, want api.Image) {
	t.Helper()
	got, e := cross.Forth(m, bits, list)
	if e != api.OK || !same(got, want) {
		t.Errorf("Forth(%d x %d, %d, %d elements): %d x %d, other at %d, error %d", m.W, m.H, bits, len(list), got.W, got.H, firstOther(got, want), e)
	}
}

func expectBack(t *testing.T, m api.Image, bits int, list []api.Element, want api.Image) {
	t.Helper()
	got, e := cross.Back(m, bits, list)
	if e != api.OK || !same(got, want) {
		t.Errorf("Back(%d x %d, %d, %d elements): %d x %d, other at %d, error %d", m.W, m.H, bits, len(list), got.W, got.H, firstOther(got, want), e)
	}
}

// expectBoth holds that Forth is what the chapter says, and that each way leads back from the other.
func expectBoth(t *testing.T, m api.Image, bits int, list []api.Element) {
	t.Helper()
	less := wantForth(m, bits, list)
	expectForth(t, m, bits, list, less)
	expectBack(t, less, bits, list, m)
	whole, e := cross.Back(m, bits, list)
	if e != api.OK {
		t.Errorf("Back(%d x %d, %d, %d elements): error %d; want OK", m.W, m.H, bits, len(list), e)
		return
	}
	expectForth(t, whole, bits, list, m)
}

func isZero(m api.Image) bool {
	return m.W == 0 && m.H == 0 && len(m.Pix) == 0
}

// expectRefused holds that both ways answer ErrArg beside no image.
func expectRefused(t *testing.T, m api.Image, bits int, list []api.Element) {
	t.Helper()
	if got, e := cross.Forth(m, bits, list); e != api.ErrArg || !isZero(got) {
		t.Errorf("Forth(%d x %d of %d pixels, %d, %d elements) = %d x %d of %d pixels, %d; want no image, ErrArg", m.W, m.H, len(m.Pix), bits, len(list), got.W, got.H, len(got.Pix), e)
	}
	if got, e := cross.Back(m, bits, list); e != api.ErrArg || !isZero(got) {
		t.Errorf("Back(%d x %d of %d pixels, %d, %d elements) = %d x %d of %d pixels, %d; want no image, ErrArg", m.W, m.H, len(m.Pix), bits, len(list), got.W, got.H, len(got.Pix), e)
	}
}

// P14.1: Delta by hand: numbers of either sign, and products below 0 that are rounded down.
func TestDeltaByHand(t *testing.T) {
	for _, c := range []struct {
		t, c int8
		want int
	}{
		{0, 0, 0}, {0, -128, 0}, {127, 0, 0},
		{32, 5, 5}, {5, 32, 5}, {-32, 5, -5}, {5, -32, -5}, {-32, -5, 5},
		{1, 1, 0}, {1, 31, 0}, {1, 32, 1}, {1, 33, 1}, {1, 63, 1}, {1, 64, 2},
		{-1, 1, -1}, {1, -1, -1}, {-1, -1, 0}, {-1, 31, -1}, {-1, 32, -1}, {-1, 33, -2}, {1, -33, -2}, {-1, 64, -2}, {-1, 65, -3},
		{127, 127, 504}, {-128, -128, 512}, {-128, 127, -508}, {127, -128, -508}, {-127, 127, -505}, {-127, -127, 504},
	} {
		if got := cross.Delta(c.t, c.c); got != c.want {
			t.Errorf("Delta(%d, %d) = %d; want %d", c.t, c.c, got, c.want)
		}
	}
}

// P14.1: Delta of all numbers.
func TestDeltaOfAll(t *testing.T) {
	for a := -128; a <= 127; a++ {
		for b := -128; b <= 127; b++ {
			if got, want := cross.Delta(int8(a), int8(b)), wantDelta(a, b); got != want {
				t.Errorf("Delta(%d, %d) = %d; want %d", a, b, got, want)
			}
		}
	}
}

// P14.1: which byte of a pixel each of an element's numbers is.
func TestPixelAndOfByHand(t *testing.T) {
	for _, c := range []struct {
		e api.Element
		p uint32
	}{
		{api.Element{}, 0xff000000},
		{api.Element{GreenRed: 1}, 0xff000001},
		{api.Element{GreenBlue: 1}, 0xff000100},
		{api.Element{RedBlue: 1}, 0xff010000},
		{api.Element{GreenRed: -1}, 0xff0000ff},
		{api.Element{GreenBlue: -1}, 0xff00ff00},
		{api.Element{RedBlue: -1}, 0xffff0000},
		{api.Element{GreenRed: -128, GreenBlue: 127, RedBlue: -127}, 0xff817f80},
		{api.Element{GreenRed: 0x12, GreenBlue: 0x34, RedBlue: 0x56}, 0xff563412},
	} {
		if got := cross.Pixel(c.e); got != c.p {
			t.Errorf("Pixel(%d) = %08x; want %08x", c.e, got, c.p)
		}
		for _, alpha := range []uint32{0xff000000, 0xfe000000, 0x80000000, 0x7f000000, 0x01000000, 0} {
			p := c.p&0xffffff | alpha
			if got := cross.Of(p); got != c.e {
				t.Errorf("Of(%08x) = %d; want %d", p, got, c.e)
			}
		}
	}
}

// P14.1: Pixel and Of are the way back of each other; Pixel's alpha is 255, whatever Of was given.
func TestPixelAndOfOfMany(t *testing.T) {
	for _, greenRed := range edges {
		for _, greenBlue := range edges {
			for _, redBlue := range edges {
				e := api.Element{GreenRed: greenRed, GreenBlue: greenBlue, RedBlue: redBlue}
				if got := cross.Of(cross.Pixel(e)); got != e {
					t.Errorf("Of(Pixel(%d)) = %d", e, got)
				}
			}
		}
	}
	for _, p := range append(sample(5000), 0, 0xffffffff, api.Black, 0x00ffffff, 0x80808080, 0x7f7f7f7f) {
		if got, want := cross.Pixel(cross.Of(p)), p|0xff000000; got != want {
			t.Errorf("Pixel(Of(%08x)) = %08x; want %08x", p, got, want)
		}
	}
}

// P14.1: single pixels by hand.
func TestPixelsByHand(t *testing.T) {
	for _, c := range []struct {
		what    string
		p, want uint32
		e       api.Element
	}{
		{"nothing", 0x12345678, 0x12345678, api.Element{}},
		{"red by green", 0xff204010, 0xff104010, api.Element{GreenRed: 8}},
		{"blue by green", 0xff204030, 0xff204010, api.Element{GreenBlue: 16}},
		{"blue by red", 0xff204030, 0xff204020, api.Element{RedBlue: 16}},
		{"blue by both", 0xff204050, 0xff204028, api.Element{GreenBlue: 16, RedBlue: 8}},
		{"each part rounded down by itself", 0xff011010, 0xff011010, api.Element{GreenBlue: 1, RedBlue: 31}},
		{"each part below 0 rounded down by itself", 0xff010110, 0xff010112, api.Element{GreenBlue: -1, RedBlue: -1}},
		{"blue by the red as it was", 0xff204000, 0xffe04020, api.Element{GreenRed: 32, RedBlue: -32}},
		{"red is below 0 round at 256", 0x00014000, 0x00f14000, api.Element{GreenRed: 8}},
		{"red is above 255 round at 256", 0x00f84000, 0x00084000, api.Element{GreenRed: -8}},
		{"blue is below 0 round at 256", 0x00004001, 0x000040f1, api.Element{GreenBlue: 8}},
		{"blue is above 255 round at 256", 0x000040f8, 0x00004008, api.Element{GreenBlue: -8}},
		{"green from 128 on", 0x8000ff00, 0x8001ff02, api.Element{GreenRed: 16, GreenBlue: 64}},
		{"red from 128 on", 0x80ff0000, 0x80ff0002, api.Element{RedBlue: 64}},
		{"green 128 by -128 goes round twice", 0x01058007, 0x01058007, api.Element{GreenRed: -128, GreenBlue: -128}},
		{"green 127 by -128", 0x01007f00, 0x01fc7ffc, api.Element{GreenRed: -128, GreenBlue: -128}},
		{"red 128 by 1", 0x01800000, 0x01800004, api.Element{RedBlue: 1}},
		{"red 127 by 1", 0x017f0000, 0x017f00fd, api.Element{RedBlue: 1}},
	} {
		m := api.Image{W: 1, H: 1, Pix: []uint32{c.p}}
		want := api.Image{W: 1, H: 1, Pix: []uint32{c.want}}
		for bits := 2; bits <= 9; bits++ {
			list := []api.Element{c.e}
			if got, e := cross.Forth(m, bits, list); e != api.OK || !same(got, want) {
				t.Errorf("%s: Forth(%08x) by %d = %08x, %d; want %08x", c.what, c.p, c.e, got.Pix, e, c.want)
			}
			if got, e := cross.Back(want, bits, list); e != api.OK || !same(got, m) {
				t.Errorf("%s: Back(%08x) by %d = %08x, %d; want %08x", c.what, c.want, c.e, got.Pix, e, c.p)
			}
		}
	}
}

// P14.1: four blocks by hand, each with another element: those at the right and below are cut off.
func TestBlocksByHand(t *testing.T) {
	const p = 0x7f204060
	m := api.Image{W: 5, H: 6, Pix: slices.Repeat([]uint32{p}, 30)}
	list := []api.Element{{GreenRed: 8}, {GreenBlue: 8}, {RedBlue: 8}, {GreenRed: -8, GreenBlue: 16, RedBlue: 32}}
	const a, b, c, d = 0x7f104060, 0x7f204050, 0x7f204058, 0x7f304020
	want := api.Image{W: 5, H: 6, Pix: []uint32{
		a, a, a, a, b,
		a, a, a, a, b,
		a, a, a, a, b,
		a, a, a, a, b,
		c, c, c, c, d,
		c, c, c, c, d,
	}}
	expectForth(t, m, 2, list, want)
	expectBack(t, want, 2, list, m)
}

// P14.1: elements at their ends, with colours at theirs.
func TestElementsAtTheirEnds(t *testing.T) {
	m := api.Image{W: len(edges) * len(edges), H: len(edges)}
	for _, red := range edges {
		for _, green := range edges {
			for _, blue := range edges {
				m.Pix = append(m.Pix, 0x5a000000|uint32(uint8(red))<<16|uint32(uint8(green))<<8|uint32(uint8(blue)))
			}
		}
	}
	ends := []int8{-128, -33, -1, 0, 1, 31, 127}
	for _, greenRed := range ends {
		for _, greenBlue := range ends {
			for _, redBlue := range ends {
				e := api.Element{GreenRed: greenRed, GreenBlue: greenBlue, RedBlue: redBlue}
				expectBoth(t, m, 9, []api.Element{e, e})
			}
		}
	}
}

// P14.1: images of many sides, all bits, blocks with elements that differ.
func TestManyImages(t *testing.T) {
	for _, side := range sides {
		m := imageOf(side[0], side[1])
		for bits := 2; bits <= 9; bits++ {
			for first := range 16 {
				expectBoth(t, m, bits, elementsFor(m, bits, first))
			}
		}
	}
}

// P14.1: sides around the ends of blocks, of each number of bits, so that one pixel more is one block more.
func TestSidesAroundTheEndsOfBlocks(t *testing.T) {
	for bits := 2; bits <= 9; bits++ {
		for _, times := range []int{1, 2} {
			for _, more := range []int{-1, 0, 1} {
				side := times<<bits + more
				for _, m := range []api.Image{imageOf(side, 3), imageOf(3, side), imageOf(min(side, 70), side)} {
					expectBoth(t, m, bits, elementsFor(m, bits, bits))
				}
			}
		}
	}
}

// P14.1: block x, y is number y times the blocks of a row and x: an element at each number is met in just that block.
func TestNumbersOfBlocks(t *testing.T) {
	m := api.Image{W: 4*4 + 1, H: 4*3 + 2, Pix: slices.Repeat([]uint32{0xff202020}, 17*14)}
	const wide, high = 5, 4
	for number := range wide * high {
		list := make([]api.Element, wide*high)
		list[number] = api.Element{GreenRed: 1, GreenBlue: 2, RedBlue: 3}
		for name, way := range map[string]func(api.Image, int, []api.Element) (api.Image, api.Errno){"Forth": cross.Forth, "Back": cross.Back} {
			got, e := way(m, 2, list)
			if e != api.OK || len(got.Pix) != len(m.Pix) {
				t.Fatalf("%s: %d pixels, error %d", name, len(got.Pix), e)
			}
			for i := range got.Pix {
				inside := i%m.W/4 == number%wide && i/m.W/4 == number/wide
				if (got.Pix[i] != m.Pix[i]) != inside {
					t.Errorf("%s, element of block %d: pixel %d, %d is %08x", name, number, i%m.W, i/m.W, got.Pix[i])
				}
			}
		}
	}
}

// P14.1: alpha and green stay, forth and back.
func TestAlphaAndGreenStay(t *testing.T) {
	m := imageOf(33, 30)
	list := elementsFor(m, 3, 1)
	for name, way := range map[string]func(api.Image, int, []api.Element) (api.Image, api.Errno){"Forth": cross.Forth, "Back": cross.Back} {
		got, e := way(m, 3, list)
		if e != api.OK || len(got.Pix) != len(m.Pix) {
			t.Fatalf("%s: %d pixels, error %d", name, len(got.Pix), e)
		}
		for i := range got.Pix {
			if (got.Pix[i]^m.Pix[i])&0xff00ff00 != 0 {
				t.Errorf("%s: pixel %d is %08x; it was %08x", name, i, got.Pix[i], m.Pix[i])
			}
		}
	}
}

// P14.1: by the empty element alone each image stays as it is.
func TestEmptyElements(t *testing.T) {
	m := imageOf(17, 15)
	for bits := 2; bits <= 9; bits++ {
		list := make([]api.Element, blockCount(m, bits))
		expectForth(t, m, bits, list, m)
		expectBack(t, m, bits, list, m)
	}
}

// P14.1: the longest sides.
func TestLongestSides(t *testing.T) {
	for _, m := range []api.Image{imageOf(api.MaxSide, 1), imageOf(1, api.MaxSide), imageOf(api.MaxSide, 5), imageOf(5, api.MaxSide)} {
		for _, bits := range []int{2, 9} {
			expectBoth(t, m, bits, elementsFor(m, bits, 3))
		}
	}
}

// P14.1: an image that is not Good, whatever the rest.
func TestImagesThatAreNotGood(t *testing.T) {
	pix := sample(12)
	for _, m := range []api.Image{
		{},
		{Pix: pix},
		{W: 4, H: 3},
		{W: 4, H: 3, Pix: pix[:11]},
		{W: 4, H: 2, Pix: pix},
		{W: 0, H: 3},
		{W: 4, H: 0, Pix: []uint32{}},
		{W: 0, H: 3, Pix: pix},
		{W: -4, H: -3, Pix: pix},
		{W: 12, H: -1, Pix: pix},
		{W: -1, H: 12, Pix: pix},
		{W: api.MaxSide + 1, H: 1, Pix: make([]uint32, api.MaxSide+1)},
		{W: 1, H: api.MaxSide + 1, Pix: make([]uint32, api.MaxSide+1)},
		{W: 1 << 32, H: 1 << 32},
		{W: math.MaxInt, H: math.MaxInt, Pix: []uint32{7}},
		{W: math.MinInt, H: math.MinInt},
		{W: math.MinInt, H: 2},
	} {
		for _, bits := range []int{2, 4, 9, 0, -1, 64} {
			for _, n := range []int{0, 1, 2, 3, 12, 33, 1025, 4097} {
				expectRefused(t, m, bits, elementsOf(n, 1))
			}
		}
	}
}

// P14.1: bits but 2 to 9, with as many elements as there would be blocks.
func TestWrongBits(t *testing.T) {
	for _, m := range []api.Image{imageOf(1, 1), imageOf(4, 4), imageOf(11, 5), imageOf(1100, 2)} {
		for _, bits := range wrongBits {
			expectRefused(t, m, bits, nil)
			expectRefused(t, m, bits, elementsOf(1, 0))
			expectRefused(t, m, bits, elementsOf(len(m.Pix), 0))
			expectRefused(t, m, bits, elementsFor(m, 2, 0))
			if bits >= 0 && bits < 32 {
				expectRefused(t, m, bits, elementsFor(m, bits, 0))
			}
		}
	}
}

// P14.1: fewer and more elements than blocks, and none; as many as there would be without the blocks that are cut off, or of other bits.
func TestWrongNumbersOfElements(t *testing.T) {
	for _, side := range [][2]int{{1, 1}, {4, 4}, {5, 4}, {4, 5}, {9, 7}, {17, 15}, {33, 1}, {1, 33}} {
		m := imageOf(side[0], side[1])
		for bits := 2; bits <= 9; bits++ {
			right := blockCount(m, bits)
			expectRefused(t, m, bits, nil)
			for n := range right + 20 {
				if n != right {
					expectRefused(t, m, bits, elementsOf(n, 0))
					expectRefused(t, m, bits, make([]api.Element, n))
				}
			}
		}
	}
}

// R4: the image and the elements are left as they are, with their spare room.
func TestWhatIsHandedInIsNotChanged(t *testing.T) {
	room, listRoom := sample(80), elementsOf(9, 4)
	kept, listKept := slices.Clone(room), slices.Clone(listRoom)
	m := api.Image{W: 9, H: 6, Pix: room[5:59]}
	for _, list := range [][]api.Element{listRoom[1:7], listRoom[1:6], listRoom[:0], nil} {
		for _, bits := range []int{2, 1, 10} {
			cross.Forth(m, bits, list)
			cross.Back(m, bits, list)
		}
	}
	if !slices.Equal(room, kept) || !slices.Equal(listRoom, listKept) {
		t.Errorf("the pixels are %08x, the elements %d; want %08x, %d", room, listRoom, kept, listKept)
	}
}

// R4: what is answered shares nothing with what was handed in, nor with another answer; also where every pixel stays.
func TestAnswersAreNew(t *testing.T) {
	for _, way := range []func(api.Image, int, []api.Element) (api.Image, api.Errno){cross.Forth, cross.Back} {
		for _, list := range [][]api.Element{elementsOf(6, 4), make([]api.Element, 6)} {
			m := imageOf(9, 6)
			first, _ := way(m, 2, list)
			kept := slices.Clone(first.Pix)
			second, _ := way(m, 2, list)
			clear(second.Pix)
			for i := range m.Pix {
				m.Pix[i]++
			}
			changed := slices.Clone(m.Pix)
			clear(list)
			if len(kept) != 54 || !slices.Equal(first.Pix, kept) {
				t.Errorf("the pixels are %08x; want %08x", first.Pix, kept)
			}
			clear(first.Pix)
			if !slices.Equal(m.Pix, changed) {
				t.Errorf("the image has changed with the answer")
			}
		}
	}
}

// R5: asked again, behind other calls and of an image and elements that have changed meanwhile, each call answers by what it is given.
func TestAskedAgain(t *testing.T) {
	m := imageOf(7, 6)
	list := elementsFor(m, 2, 5)
	for i := range 40 {
		expectBoth(t, m, 2, list)
		expectRefused(t, m, 1, list)
		expectBoth(t, m, 9, list[:1])
		expectRefused(t, m, 2, list[1:])
		m.Pix[i] += 0x01030507
		list[i%len(list)].RedBlue += int8(i)
	}
}
