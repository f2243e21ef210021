package lean_test

import (
	"math"
	"slices"
	"testing"

	"marquetry/api"
	"marquetry/guess"
	"marquetry/lean"
	"marquetry/pixel"
)

// Sides that whole blocks cover, and sides that they do not.
var sides = [][2]int{{1, 1}, {2, 1}, {1, 2}, {4, 4}, {5, 1}, {1, 5}, {8, 8}, {9, 7}, {7, 9}, {16, 4}, {4, 16}, {17, 15}, {33, 1}, {1, 33}, {33, 30}, {64, 3}, {3, 65}}

// Bits that may not be, and those that might be if they were cut off to fewer bits.
var wrongBits = []int{-1, -2, -9, 0, 1, 10, 11, 16, 30, 31, 32, 63, 64, 64 + 2, 256 + 2, 1<<16 + 3, 1<<32 + 2, -1<<32 + 2, math.MaxInt, math.MinInt, math.MinInt + 2}

// Modes that may not be, and those that might be if they were cut off to fewer bits.
var wrongModes = []int{-1, -2, -15, -16, 16, 17, 31, 100, 256, 256 + 7, 1 << 16, 1<<31 - 1, -1 << 31, 1 << 32, 1<<32 + 7, math.MaxInt, math.MinInt, math.MinInt + 7}

// sample answers n pixels by a fixed rule.
func sample(n int) []uint32 {
	list := make([]uint32, n)
	x := uint32(1312)
	for i := range list {
		x = x*1664525 + 1013904223
		list[i] = x ^ x>>13
	}
	return list
}

func imageOf(w, h int) api.Image {
	return api.Image{W: w, H: h, Pix: sample(w * h)}
}

// starts answers where the blocks of one side start, one block after the other.
func starts(side, bits int) []int {
	var list []int
	for at := 0; at < side; at += int(math.Pow(2, float64(bits))) {
		list = append(list, at)
	}
	return list
}

func blockCount(m api.Image, bits int) int {
	return len(starts(m.W, bits)) * len(starts(m.H, bits))
}

// modesFor answers modes for all blocks of m, from first on, so that each block has another one than the next.
func modesFor(m api.Image, bits, first int) []int {
	list := make([]int, blockCount(m, bits))
	for i := range list {
		list[i] = (first + i*7) % 16
	}
	return list
}

// wantForth goes block by block, in their order, and does all of a block's pixels by its mode.
func wantForth(m api.Image, bits int, modes []int) api.Image {
	want := api.Image{W: m.W, H: m.H, Pix: make([]uint32, len(m.Pix))}
	side := int(math.Pow(2, float64(bits)))
	number := 0
	for _, top := range starts(m.H, bits) {
		for _, left := range starts(m.W, bits) {
			for y := top; y < min(top+side, m.H); y++ {
				for x := left; x < min(left+side, m.W); x++ {
					want.Pix[y*m.W+x] = pixel.Sub(m.Pix[y*m.W+x], guess.At(m, modes[number], x, y))
				}
			}
			number++
		}
	}
	return want
}

func same(m, n api.Image) bool {
	return m.W == n.W && m.H == n.H && slices.Equal(m.Pix, n.Pix)
}

// firstOther answers the place of the first pixel that differs, for what is told.
func firstOther(m, n api.Image) int {
	for i := range min(len(m.Pix), len(n.Pix)) {
		if m.Pix[i] != n.Pix[i] {
			return i
		}
	}
	return min(len(m.Pix), len(n.Pix))
}

func expectForth(t *testing.T, m api.Image, bits int, modes []int, want api.Image) {
	t.Helper()
	got, e := lean.Forth(m, bits, modes)
	if e != api.OK || !same(got, want) {
		t.Errorf("Forth(%d x %d, %d, %d modes): %d x %d, other at %d, error %d", m.W, m.H, bits, len(modes), got.W, got.H, firstOther(got, want), e)
	}
}

func expectBack(t *testing.T, m api.Image, bits int, modes []int, want api.Image) {
	t.Helper()
	got, e := lean.Back(m, bits, modes)
	if e != api.OK || !same(got, want) {
		t.Errorf("Back(%d x %d, %d, %d modes): %d x %d, other at %d, error %d", m.W, m.H, bits, len(modes), got.W, got.H, firstOther(got, want), e)
	}
}

// expectBoth holds that the three are Sound, that Forth is what the chapter says, and that each way leads back from the other.
func expectBoth(t *testing.T, m api.Image, bits int, modes []int) {
	t.Helper()
	if !lean.Sound(m, bits, modes) {
		t.Errorf("Sound(%d x %d, %d, %d modes) = false; want true", m.W, m.H, bits, len(modes))
	}
	less := wantForth(m, bits, modes)
	expectForth(t, m, bits, modes, less)
	expectBack(t, less, bits, modes, m)
	whole, e := lean.Back(m, bits, modes)
	if e != api.OK {
		t.Errorf("Back(%d x %d, %d, %d modes): error %d; want OK", m.W, m.H, bits, len(modes), e)
		return
	}
	expectForth(t, whole, bits, modes, m)
}

func isZero(m api.Image) bool {
	return m.W == 0 && m.H == 0 && len(m.Pix) == 0
}

// expectRefused holds that the three are not Sound, and that both ways answer ErrArg beside no image.
func expectRefused(t *testing.T, m api.Image, bits int, modes []int) {
	t.Helper()
	if lean.Sound(m, bits, modes) {
		t.Errorf("Sound(%d x %d of %d pixels, %d, %d modes) = true; want false", m.W, m.H, len(m.Pix), bits, len(modes))
	}
	if got, e := lean.Forth(m, bits, modes); e != api.ErrArg || !isZero(got) {
		t.Errorf("Forth(%d x %d of %d pixels, %d, %d modes) = %d x %d of %d pixels, %d; want no image, ErrArg", m.W, m.H, len(m.Pix), bits, len(modes), got.W, got.H, len(got.Pix), e)
	}
	if got, e := lean.Back(m, bits, modes); e != api.ErrArg || !isZero(got) {
		t.Errorf("Back(%d x %d of %d pixels, %d, %d modes) = %d x %d of %d pixels, %d; want no image, ErrArg", m.W, m.H, len(m.Pix), bits, len(modes), got.W, got.H, len(got.Pix), e)
	}
}

// P13.1: four blocks by hand: those at the right and below are cut off.
func TestByHand(t *testing.T) {
	m := api.Image{W: 6, H: 5, Pix: []uint32{
		0xff000010, 0x20, 0x30, 0x40, 0x50, 0x60,
		0x11, 0x22, 0x33, 0x44, 0x55, 0x66,
		0x13, 0x25, 0x37, 0x49, 0x5b, 0x6d,
		0x15, 0x28, 0x3b, 0x4e, 0x61, 0x74,
		0x16, 0x2a, 0x3e, 0x52, 0x67, 0x7d,
	}}
	// Block 0 takes the left, 1 the one above, 2 above at the left, 3 above at the right.
	modes := []int{1, 2, 4, 3}
	want := api.Image{W: 6, H: 5, Pix: []uint32{
		0x10, 0x01000010, 0x10, 0x10, 0x10, 0x10,
		0x01000001, 0x11, 0x11, 0x11, 0x05, 0x06,
		0x02, 0x12, 0x12, 0x12, 0x06, 0x07,
		0x02, 0x13, 0x13, 0x13, 0x06, 0x07,
		0x01, 0x15, 0x16, 0x17, 0xf3, 0x67,
	}}
	expectForth(t, m, 2, modes, want)
	expectBack(t, want, 2, modes, m)
}

// P13.1: each of the four by itself, round at 256, by modes that make what no pixel around is.
func TestRoundByHand(t *testing.T) {
	m := api.Image{W: 2, H: 2, Pix: []uint32{0x00010203, 0xff00ff00, 0x80007f10, 0x01ff0010}}
	rest := []uint32{0x01010203, 0xfffffdfd, 0x80ff7d0d}
	wants := []uint32{
		0:  0x02ff0010,
		1:  0x81ff8100,
		2:  0x02ff0110,
		3:  0x81ff8100,
		4:  0x01fefe0d,
		5:  0x42ff4108,
		6:  0xc1ffc007,
		7:  0x42ff4108,
		8:  0x82ff800f,
		9:  0x42ff4108,
		10: 0x82ff8108,
		11: 0x02ff0110,
		12: 0x02ff0103,
		13: 0x02ff0106,
		14: 0x02ff0010,
		15: 0x02ff0010,
	}
	for mode, last := range wants {
		want := api.Image{W: 2, H: 2, Pix: append(slices.Clone(rest), last)}
		expectForth(t, m, 2, []int{mode}, want)
		expectBack(t, want, 2, []int{mode}, m)
	}
}

// P13.1: the first row leans on the left and the first column on what is above, whatever the mode; the first pixel on Black.
func TestThinImagesByHand(t *testing.T) {
	row := api.Image{W: 6, H: 1, Pix: []uint32{0xff000002, 0xff000003, 0xff000005, 0xff000009, 0xff000008, 0xff000001}}
	wantRow := api.Image{W: 6, H: 1, Pix: []uint32{2, 1, 2, 4, 0xff, 0xf9}}
	column := api.Image{W: 1, H: 6, Pix: row.Pix}
	wantColumn := api.Image{W: 1, H: 6, Pix: wantRow.Pix}
	one := api.Image{W: 1, H: 1, Pix: []uint32{0x12345678}}
	wantOne := api.Image{W: 1, H: 1, Pix: []uint32{0x13345678}}
	for mode := range 16 {
		expectForth(t, row, 2, []int{mode, 15 - mode}, wantRow)
		expectBack(t, wantRow, 2, []int{mode, 15 - mode}, row)
		expectForth(t, column, 2, []int{mode, 15 - mode}, wantColumn)
		expectBack(t, wantColumn, 2, []int{mode, 15 - mode}, column)
		for bits := 2; bits <= 9; bits++ {
			expectForth(t, one, bits, []int{mode}, wantOne)
			expectBack(t, wantOne, bits, []int{mode}, one)
		}
	}
}

// P13.1: images of many sides, all bits, blocks with modes that differ.
func TestManyImages(t *testing.T) {
	for _, side := range sides {
		m := imageOf(side[0], side[1])
		for bits := 2; bits <= 9; bits++ {
			for first := range 16 {
				expectBoth(t, m, bits, modesFor(m, bits, first))
			}
		}
	}
}

// P13.1: sides around the ends of blocks, of each number of bits, so that one pixel more is one block more.
func TestSidesAroundTheEndsOfBlocks(t *testing.T) {
	for bits := 2; bits <= 9; bits++ {
		for _, times := range []int{1, 2} {
			for _, more := range []int{-1, 0, 1} {
				side := times<<bits + more
				for _, m := range []api.Image{imageOf(side, 3), imageOf(3, side), imageOf(min(side, 70), side)} {
					expectBoth(t, m, bits, modesFor(m, bits, bits))
				}
			}
		}
	}
}

// P13.1: block x, y is number y times the blocks of a row and x: at each number another mode is met in just that block.
func TestNumbersOfBlocks(t *testing.T) {
	m := imageOf(4*4+1, 4*3+2)
	const wide, high = 5, 4
	plain, e := lean.Forth(m, 2, make([]int, wide*high))
	if e != api.OK {
		t.Fatalf("Forth: error %d", e)
	}
	for number := range wide * high {
		modes := make([]int, wide*high)
		modes[number] = 12
		got, e := lean.Forth(m, 2, modes)
		if e != api.OK {
			t.Fatalf("Forth: error %d", e)
		}
		met := 0
		for i := range got.Pix {
			inside := i%m.W/4 == number%wide && i/m.W/4 == number/wide
			if got.Pix[i] != plain.Pix[i] && !inside {
				t.Errorf("mode of block %d: pixel %d, %d is another one", number, i%m.W, i/m.W)
			}
			if got.Pix[i] != plain.Pix[i] {
				met++
			}
		}
		if met == 0 {
			t.Errorf("mode of block %d is met nowhere", number)
		}
	}
}

// P13.1: the longest sides.
func TestLongestSides(t *testing.T) {
	for _, m := range []api.Image{imageOf(api.MaxSide, 1), imageOf(1, api.MaxSide), imageOf(api.MaxSide, 5), imageOf(5, api.MaxSide)} {
		for _, bits := range []int{2, 9} {
			expectBoth(t, m, bits, modesFor(m, bits, 3))
		}
	}
}

// P13.1: modes 14 and 15 are as 0 is, and each other one is not.
func TestModesThatAreBlack(t *testing.T) {
	m := imageOf(9, 9)
	black := wantForth(m, 4, []int{0})
	for mode := range 16 {
		got, e := lean.Forth(m, 4, []int{mode})
		if want := mode == 0 || mode > 13; e != api.OK || same(got, black) != want {
			t.Errorf("Forth by mode %d: as by mode 0: %t, error %d; want %t", mode, !want, e, want)
		}
	}
}

// P13.1: an image that is not Good, whatever the rest.
func TestImagesThatAreNotGood(t *testing.T) {
	pix := sample(12)
	for _, m := range []api.Image{
		{},
		{Pix: pix},
		{W: 4, H: 3},
		{W: 4, H: 3, Pix: pix[:11]},
		{W: 4, H: 2, Pix: pix},
		{W: 0, H: 3},
		{W: 4, H: 0, Pix: []uint32{}},
		{W: 0, H: 3, Pix: pix},
		{W: -4, H: -3, Pix: pix},
		{W: 12, H: -1, Pix: pix},
		{W: -1, H: 12, Pix: pix},
		{W: api.MaxSide + 1, H: 1, Pix: make([]uint32, api.MaxSide+1)},
		{W: 1, H: api.MaxSide + 1, Pix: make([]uint32, api.MaxSide+1)},
		{W: 1 << 32, H: 1 << 32},
		{W: math.MaxInt, H: math.MaxInt, Pix: []uint32{7}},
		{W: math.MinInt, H: math.MinInt},
		{W: math.MinInt, H: 2},
	} {
		for _, bits := range []int{2, 4, 9, 0, -1, 64} {
			for _, n := range []int{0, 1, 2, 3, 12, 33, 1025, 4097} {
				expectRefused(t, m, bits, make([]int, n))
			}
		}
	}
}

// P13.1: bits but 2 to 9, with as many modes as there would be blocks.
func TestWrongBits(t *testing.T) {
	for _, m := range []api.Image{imageOf(1, 1), imageOf(4, 4), imageOf(11, 5), imageOf(1100, 2)} {
		for _, bits := range wrongBits {
			expectRefused(t, m, bits, nil)
			expectRefused(t, m, bits, []int{1})
			expectRefused(t, m, bits, make([]int, len(m.Pix)))
			expectRefused(t, m, bits, modesFor(m, 2, 0))
			if bits >= 0 && bits < 32 {
				expectRefused(t, m, bits, modesFor(m, bits, 0))
			}
		}
	}
}

// P13.1: fewer and more modes than blocks, and none; as many as there would be without the blocks that are cut off, or of other bits.
func TestWrongNumbersOfModes(t *testing.T) {
	for _, side := range [][2]int{{1, 1}, {4, 4}, {5, 4}, {4, 5}, {9, 7}, {17, 15}, {33, 1}, {1, 33}} {
		m := imageOf(side[0], side[1])
		for bits := 2; bits <= 9; bits++ {
			right := blockCount(m, bits)
			for n := range right + 20 {
				if n != right {
					expectRefused(t, m, bits, make([]int, n))
				}
			}
		}
	}
}

// P13.1: a mode below 0 or above 15, at each place.
func TestWrongModes(t *testing.T) {
	m := imageOf(9, 7)
	for bits := 2; bits <= 9; bits++ {
		for i := range blockCount(m, bits) {
			for _, mode := range wrongModes {
				modes := modesFor(m, bits, 1)
				modes[i] = mode
				expectRefused(t, m, bits, modes)
			}
			for _, mode := range []int{0, 15} {
				modes := modesFor(m, bits, 1)
				modes[i] = mode
				expectBoth(t, m, bits, modes)
			}
		}
	}
}

// R4: the image and the modes are left as they are, with their spare room.
func TestWhatIsHandedInIsNotChanged(t *testing.T) {
	room, modeRoom := sample(80), []int{3, 5, 7, 9, 11, 13, 15, 2, 4}
	kept, modesKept := slices.Clone(room), slices.Clone(modeRoom)
	m := api.Image{W: 9, H: 6, Pix: room[5:59]}
	for _, modes := range [][]int{modeRoom[1:7], modeRoom[1:6], modeRoom[:0], nil} {
		for _, bits := range []int{2, 1, 10} {
			lean.Forth(m, bits, modes)
			lean.Back(m, bits, modes)
			lean.Sound(m, bits, modes)
		}
	}
	if !slices.Equal(room, kept) || !slices.Equal(modeRoom, modesKept) {
		t.Errorf("the pixels are %08x, the modes %d; want %08x, %d", room, modeRoom, kept, modesKept)
	}
}

// R4: what is answered shares nothing with what was handed in, nor with another answer.
func TestAnswersAreNew(t *testing.T) {
	for _, way := range []func(api.Image, int, []int) (api.Image, api.Errno){lean.Forth, lean.Back} {
		m := imageOf(9, 6)
		modes := modesFor(m, 2, 4)
		first, _ := way(m, 2, modes)
		kept := slices.Clone(first.Pix)
		second, _ := way(m, 2, modes)
		for i := range second.Pix {
			second.Pix[i]++
		}
		for i := range m.Pix {
			m.Pix[i]++
		}
		clear(modes)
		if !slices.Equal(first.Pix, kept) {
			t.Errorf("the pixels are %08x; want %08x", first.Pix, kept)
		}
		for i := range first.Pix {
			first.Pix[i] = 0
		}
		if !same(m, api.Image{W: 9, H: 6, Pix: addOne(sample(54))}) {
			t.Errorf("the image has changed with the answer")
		}
	}
}

func addOne(list []uint32) []uint32 {
	for i := range list {
		list[i]++
	}
	return list
}

// R5: asked again, behind other calls and of an image and modes that have changed meanwhile, each call answers by what it is given.
func TestAskedAgain(t *testing.T) {
	m := imageOf(7, 6)
	modes := modesFor(m, 2, 5)
	for i := range 40 {
		expectBoth(t, m, 2, modes)
		expectRefused(t, m, 1, modes)
		expectBoth(t, m, 9, modes[:1])
		expectRefused(t, m, 2, modes[1:])
		m.Pix[i] += 0x01030507
		modes[i%len(modes)] = i % 16
	}
}
