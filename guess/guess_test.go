package guess_test

import (
	"math"
	"slices"
	"testing"

	"marquetry/api"
	"marquetry/guess"
)

// Pixels at the ends and of the everyday kind.
var pixels = []uint32{0, 1, 0xff, 0xff00, 0x1000000, api.Black, 0x80808080, 0x7f7f7f7f, 0x00ff00ff, 0xff00ff00, 0x12345678, 0xdeadbeef, 0xfefdfcfb, 0xffffffff}

// Modes that no line of the chapter names, and those that would be named if they were cut off to fewer bits.
var otherModes = []int{-1, -2, -13, 14, 15, 16, 17, 100, 256 + 1, 1<<16 + 2, 1<<31 - 1, -1 << 31, 1<<32 + 7, math.MaxInt, math.MinInt, math.MinInt + 4}

// Numbers that no image's column or row has, and those that would be within an image if they were cut off.
var wrongPlaces = []int{-1, -2, -api.MaxSide, api.MaxSide, api.MaxSide + 1, 1 << 31, 1 << 32, 1<<32 + 1, -1 << 32, math.MaxInt, math.MinInt}

// sample answers n pixels by a fixed rule.
func sample(n int) []uint32 {
	list := make([]uint32, n)
	x := uint32(1912)
	for i := range list {
		x = x*1664525 + 1013904223
		list[i] = x ^ x>>13
	}
	return list
}

func imageOf(w, h int) api.Image {
	return api.Image{W: w, H: h, Pix: sample(w * h)}
}

// by answers the pixel whose four are made by one rule of those of the four around.
func by(around [4]uint32, rule func(l, t, tl, tr int) int) uint32 {
	p := uint32(0)
	for _, place := range []int{24, 16, 8, 0} {
		of := func(i int) int { return int(around[i] >> place % 256) }
		p = p*256 + uint32(rule(of(0), of(1), of(2), of(3)))
	}
	return p
}

func mean(v, w int) int {
	return int(math.Floor(float64(v+w) / 2))
}

func cut(v int) int {
	return min(max(v, 0), 255)
}

// nearer answers l or t by the chapter's words on Pick.
func nearer(l, t, tl uint32) uint32 {
	fromL, fromT := 0, 0
	for _, place := range []int{24, 16, 8, 0} {
		of := func(p uint32) int { return int(p >> place % 256) }
		fromL += max(of(t)-of(tl), of(tl)-of(t))
		fromT += max(of(l)-of(tl), of(tl)-of(l))
	}
	if fromL < fromT {
		return l
	}
	return t
}

// wantGuess answers by the chapter's words, number by number of the four.
func wantGuess(mode int, l, t, tl, tr uint32) uint32 {
	rules := []func(l, t, tl, tr int) int{
		1:  func(l, t, tl, tr int) int { return l },
		2:  func(l, t, tl, tr int) int { return t },
		3:  func(l, t, tl, tr int) int { return tr },
		4:  func(l, t, tl, tr int) int { return tl },
		5:  func(l, t, tl, tr int) int { return mean(mean(l, tr), t) },
		6:  func(l, t, tl, tr int) int { return mean(l, tl) },
		7:  func(l, t, tl, tr int) int { return mean(l, t) },
		8:  func(l, t, tl, tr int) int { return mean(tl, t) },
		9:  func(l, t, tl, tr int) int { return mean(t, tr) },
		10: func(l, t, tl, tr int) int { return mean(mean(l, tl), mean(t, tr)) },
		12: func(l, t, tl, tr int) int { return cut(l + t - tl) },
		13: func(l, t, tl, tr int) int {
			p := mean(l, t)
			return cut(p + int(math.Trunc(float64(p-tl)/2)))
		},
	}
	if mode == 11 {
		return nearer(l, t, tl)
	}
	if mode < 1 || mode > 13 {
		return 0xff000000
	}
	return by([4]uint32{l, t, tl, tr}, rules[mode])
}

// wantAround answers the four around out of a greater plane: a row of 0s is laid above the image, a column of 0s at its left, and behind each row stands the first pixel of the next one.
func wantAround(m api.Image, x, y int) [4]uint32 {
	var rows [][]uint32
	for row := -1; row < m.H; row++ {
		line := make([]uint32, m.W+2)
		if row >= 0 {
			copy(line[1:], m.Pix[row*m.W:(row+1)*m.W])
		}
		if row+1 < m.H {
			line[m.W+1] = m.Pix[(row+1)*m.W]
		}
		rows = append(rows, line)
	}
	return [4]uint32{rows[y+1][x], rows[y][x+1], rows[y][x], rows[y][x+2]}
}

func wantAt(m api.Image, mode, x, y int) uint32 {
	around := wantAround(m, x, y)
	if y == 0 {
		if x == 0 {
			return 0xff000000
		}
		return around[0]
	}
	if x == 0 {
		return around[1]
	}
	return wantGuess(mode, around[0], around[1], around[2], around[3])
}

func expectGuess(t *testing.T, mode int, l, top, tl, tr, want uint32) {
	t.Helper()
	if got := guess.Guess(mode, l, top, tl, tr); got != want {
		t.Errorf("Guess(%d, %08x, %08x, %08x, %08x) = %08x; want %08x", mode, l, top, tl, tr, got, want)
	}
}

func expectAround(t *testing.T, m api.Image, x, y int, want [4]uint32) {
	t.Helper()
	l, top, tl, tr := guess.Around(m, x, y)
	if got := [4]uint32{l, top, tl, tr}; got != want {
		t.Errorf("Around(%d x %d of %d pixels, %d, %d) = %08x; want %08x", m.W, m.H, len(m.Pix), x, y, got, want)
	}
}

func expectAt(t *testing.T, m api.Image, mode, x, y int, want uint32) {
	t.Helper()
	if got := guess.At(m, mode, x, y); got != want {
		t.Errorf("At(%d x %d of %d pixels, %d, %d, %d) = %08x; want %08x", m.W, m.H, len(m.Pix), mode, x, y, got, want)
	}
}

// expectNothing holds that neither Around nor At finds anything there, whatever the mode.
func expectNothing(t *testing.T, m api.Image, x, y int) {
	t.Helper()
	expectAround(t, m, x, y, [4]uint32{})
	for mode := -1; mode <= 15; mode++ {
		expectAt(t, m, mode, x, y, 0)
	}
}

// P12.1: each mode by hand, of four pixels that differ.
func TestGuessByHand(t *testing.T) {
	const l, top, tl, tr = 0xff10c840, 0xf0309080, 0x1820b0ff, 0x60a00507
	wants := []uint32{
		0:  0xff000000,
		1:  l,
		2:  top,
		3:  tr,
		4:  tl,
		5:  0xcf447b51,
		6:  0x8b18bc9f,
		7:  0xf720ac60,
		8:  0x8428a0bf,
		9:  0xa8684a43,
		10: 0x99408371,
		11: l,
		12: 0xff20a800,
		13: 0xff20aa11,
		14: 0xff000000,
	}
	for mode, want := range wants {
		expectGuess(t, mode, l, top, tl, tr, want)
	}
	// With l and t in each other's place, mode 11 takes the same pixel by its other name.
	expectGuess(t, 11, top, l, tl, tr, l)
	// As far from the one as from the other: t.
	expectGuess(t, 11, 0x10, 0x20, 0x18, 0, 0x20)
}

// P12.1: halves of halves are rounded down one by one, in the order that the chapter has.
func TestGuessHalvesInOrder(t *testing.T) {
	// t counts as much as l and tr together.
	expectGuess(t, 5, 0, 2, 0, 0, 1)
	expectGuess(t, 5, 2, 0, 0, 0, 0)
	expectGuess(t, 5, 0, 0, 0, 2, 0)
	// Of l and tr the half is rounded down ahead of the other half.
	expectGuess(t, 5, 1, 1, 0, 0, 0)
	expectGuess(t, 5, 0, 1, 0, 2, 1)
	// Avg(0, 1), though the quarter of the sum is 1.
	expectGuess(t, 10, 1, 2, 0, 1, 0)
	// l goes with tl, and t with tr: by other pairs these would be 1, 0.
	expectGuess(t, 10, 1, 1, 2, 0, 0)
	expectGuess(t, 10, 1, 2, 1, 0, 1)
	// 4 + -3 / 2 and 4 + 3 / 2, the quotients towards 0; then both ends.
	expectGuess(t, 13, 4, 5, 7, 0, 3)
	expectGuess(t, 13, 5, 4, 1, 0, 5)
	expectGuess(t, 13, 0xff, 0xff, 0, 0, 0xff)
	expectGuess(t, 13, 0, 0, 0xff, 0, 0)
}

// P12.1: each mode against the chapter's words.
func TestGuessOfManyPixels(t *testing.T) {
	list := slices.Concat(pixels, sample(400))
	for mode := -1; mode <= 16; mode++ {
		for i := range list {
			l, top, tl, tr := list[i], list[(i*7+1)%len(list)], list[(i*13+2)%len(list)], list[(i*29+3)%len(list)]
			expectGuess(t, mode, l, top, tl, tr, wantGuess(mode, l, top, tl, tr))
		}
	}
	for mode := range 16 {
		for i := range len(pixels) * len(pixels) * len(pixels) {
			l, top, tl := pixels[i%len(pixels)], pixels[i/len(pixels)%len(pixels)], pixels[i/len(pixels)/len(pixels)]
			expectGuess(t, mode, l, top, tl, ^tl, wantGuess(mode, l, top, tl, ^tl))
		}
	}
}

// P12.1: small numbers, all of them, at each of the four places.
func TestGuessOfSmallNumbers(t *testing.T) {
	for mode := range 15 {
		for i := range 4 * 4 * 4 * 4 {
			l, top, tl, tr := uint32(i%4), uint32(i/4%4), uint32(i/16%4), uint32(i/64)
			for _, unit := range []uint32{1, 1 << 8, 1 << 16, 1 << 24} {
				expectGuess(t, mode, l*unit, top*unit, tl*unit, tr*unit, wantGuess(mode, l*unit, top*unit, tl*unit, tr*unit))
			}
		}
	}
}

// P12.1: of 0, and of modes that are not listed, Black, whatever the pixels.
func TestGuessOfOtherModes(t *testing.T) {
	for _, p := range pixels {
		expectGuess(t, 0, p, ^p, p+1, p-1, api.Black)
		for _, mode := range otherModes {
			expectGuess(t, mode, p, ^p, p+1, p-1, api.Black)
		}
	}
}

// P12.2: an image of several rows and columns by hand.
func TestAroundByHand(t *testing.T) {
	m := api.Image{W: 4, H: 3, Pix: []uint32{
		11, 12, 13, 14,
		21, 22, 23, 24,
		31, 32, 33, 34,
	}}
	expectAround(t, m, 1, 1, [4]uint32{21, 12, 11, 13})
	expectAround(t, m, 2, 1, [4]uint32{22, 13, 12, 14})
	expectAround(t, m, 2, 2, [4]uint32{32, 23, 22, 24})
	// At the left nothing is there.
	expectAround(t, m, 0, 1, [4]uint32{0, 11, 0, 12})
	expectAround(t, m, 0, 2, [4]uint32{0, 21, 0, 22})
	// The last column: the first pixel of the row itself.
	expectAround(t, m, 3, 1, [4]uint32{23, 14, 13, 21})
	expectAround(t, m, 3, 2, [4]uint32{33, 24, 23, 31})
	// Above the first row nothing is there; its last column has its first pixel.
	expectAround(t, m, 0, 0, [4]uint32{0, 0, 0, 0})
	expectAround(t, m, 1, 0, [4]uint32{11, 0, 0, 0})
	expectAround(t, m, 2, 0, [4]uint32{12, 0, 0, 0})
	expectAround(t, m, 3, 0, [4]uint32{13, 0, 0, 11})
}

// P12.2: images of one row, of one column and of one pixel by hand.
func TestAroundOfThinImages(t *testing.T) {
	row := api.Image{W: 3, H: 1, Pix: []uint32{5, 6, 7}}
	expectAround(t, row, 0, 0, [4]uint32{0, 0, 0, 0})
	expectAround(t, row, 1, 0, [4]uint32{5, 0, 0, 0})
	expectAround(t, row, 2, 0, [4]uint32{6, 0, 0, 5})
	column := api.Image{W: 1, H: 3, Pix: []uint32{5, 6, 7}}
	expectAround(t, column, 0, 0, [4]uint32{0, 0, 0, 5})
	expectAround(t, column, 0, 1, [4]uint32{0, 5, 0, 6})
	expectAround(t, column, 0, 2, [4]uint32{0, 6, 0, 7})
	expectAround(t, api.Image{W: 1, H: 1, Pix: []uint32{5}}, 0, 0, [4]uint32{0, 0, 0, 5})
}

// P12.2: At by hand: in the middle by the mode, in the first row and column whatever the mode.
func TestAtByHand(t *testing.T) {
	m := api.Image{W: 3, H: 3, Pix: []uint32{
		0x10, 0x20, 0x40,
		0x31, 0x52, 0x73,
		0x95, 0xb6, 0xd8,
	}}
	wants := []uint32{0: api.Black, 1: 0x31, 2: 0x20, 3: 0x40, 4: 0x10, 5: 0x2c, 6: 0x20, 7: 0x28, 8: 0x18, 9: 0x30, 10: 0x28, 11: 0x31, 12: 0x41, 13: 0x34, 14: api.Black, 15: api.Black}
	for mode, want := range wants {
		expectAt(t, m, mode, 1, 1, want)
	}
	expectAt(t, m, 3, 2, 1, 0x31)
	expectAt(t, m, 9, 2, 1, 0x38)
	expectAt(t, m, 3, 2, 2, 0x95)
	expectAt(t, m, 4, 2, 2, 0x52)
	for _, mode := range append([]int{0, 1, 2, 3, 4, 5, 6, 7, 8, 9, 10, 11, 12, 13}, otherModes...) {
		expectAt(t, m, mode, 0, 0, api.Black)
		expectAt(t, m, mode, 1, 0, 0x10)
		expectAt(t, m, mode, 2, 0, 0x20)
		expectAt(t, m, mode, 0, 1, 0x10)
		expectAt(t, m, mode, 0, 2, 0x31)
	}
	for _, mode := range otherModes {
		expectAt(t, m, mode, 1, 1, api.Black)
		expectAt(t, m, mode, 2, 2, api.Black)
	}
}

// P12.2: images of one row, of one column and of one pixel.
func TestAtOfThinImages(t *testing.T) {
	for mode := -1; mode <= 14; mode++ {
		expectAt(t, api.Image{W: 1, H: 1, Pix: []uint32{5}}, mode, 0, 0, api.Black)
		row := api.Image{W: 3, H: 1, Pix: []uint32{5, 6, 7}}
		column := api.Image{W: 1, H: 3, Pix: []uint32{5, 6, 7}}
		for i, want := range []uint32{api.Black, 5, 6} {
			expectAt(t, row, mode, i, 0, want)
			expectAt(t, column, mode, 0, i, want)
		}
	}
}

// P12.2: every place of images of many sides, against the chapter's words.
func TestAroundAndAtOfManyImages(t *testing.T) {
	for _, sides := range [][2]int{{1, 1}, {1, 2}, {2, 1}, {2, 2}, {1, 9}, {9, 1}, {2, 7}, {7, 2}, {3, 3}, {5, 4}, {4, 5}, {16, 11}, {33, 8}} {
		m := imageOf(sides[0], sides[1])
		for y := range m.H {
			for x := range m.W {
				expectAround(t, m, x, y, wantAround(m, x, y))
				for mode := -1; mode <= 16; mode++ {
					expectAt(t, m, mode, x, y, wantAt(m, mode, x, y))
				}
			}
		}
	}
}

// P12.2: images at the ends of what is Good.
func TestImagesOfTheLongestSides(t *testing.T) {
	wide, high := imageOf(api.MaxSide, 2), imageOf(2, api.MaxSide)
	last := api.MaxSide - 1
	expectAround(t, wide, last, 1, [4]uint32{wide.Pix[2*last], wide.Pix[last], wide.Pix[last-1], wide.Pix[last+1]})
	expectAt(t, wide, 3, last, 1, wide.Pix[last+1])
	expectNothing(t, wide, last+1, 0)
	expectNothing(t, wide, last+1, 1)
	expectAround(t, high, 1, last, [4]uint32{high.Pix[2*last], high.Pix[2*last-1], high.Pix[2*last-2], high.Pix[2*last]})
	expectAt(t, high, 2, 1, last, high.Pix[2*last-1])
	expectNothing(t, high, 0, last+1)
	expectNothing(t, high, 1, last+1)
}

// P12.2: places that are not within the image: 0s.
func TestPlacesOutside(t *testing.T) {
	for _, sides := range [][2]int{{1, 1}, {1, 4}, {4, 1}, {4, 3}} {
		m := imageOf(sides[0], sides[1])
		for _, wrong := range append([]int{m.W, m.W + 1, m.W * m.H}, wrongPlaces...) {
			for y := range m.H {
				expectNothing(t, m, max(wrong, m.W), y)
				expectNothing(t, m, min(wrong, -1), y)
			}
		}
		for _, wrong := range append([]int{m.H, m.H + 1, m.W * m.H}, wrongPlaces...) {
			for x := range m.W {
				expectNothing(t, m, x, max(wrong, m.H))
				expectNothing(t, m, x, min(wrong, -1))
			}
			expectNothing(t, m, wrong, wrong)
			expectNothing(t, m, -1, max(wrong, m.H))
			expectNothing(t, m, m.W, min(wrong, -1))
		}
		// Outside, though a place in the list of pixels would be theirs.
		expectNothing(t, m, -1, 1)
		expectNothing(t, m, m.W, 0)
	}
}

// P12.2: images that are not Good: 0s, also at 0, 0 and where pixels are.
func TestImagesThatAreNotGood(t *testing.T) {
	pix := sample(12)
	for _, m := range []api.Image{
		{},
		{W: 1, H: 1},
		{W: 1, H: 1, Pix: []uint32{}},
		{W: 0, H: 3},
		{W: 3, H: 0},
		{W: 0, H: 0, Pix: pix},
		{W: 4, H: 3, Pix: pix[:11]},
		{W: 4, H: 3, Pix: append(pix[:12:12], 1)},
		{W: 4, H: 4, Pix: pix},
		{W: 3, H: 3, Pix: pix},
		{W: -4, H: -3, Pix: pix},
		{W: 12, H: -1, Pix: pix},
		{W: -1, H: 12, Pix: pix},
		{W: api.MaxSide + 1, H: 1, Pix: make([]uint32, api.MaxSide+1)},
		{W: 1, H: api.MaxSide + 1, Pix: make([]uint32, api.MaxSide+1)},
		{W: 1 << 32, H: 1 << 32},
		{W: math.MaxInt, H: math.MaxInt, Pix: []uint32{7}},
		{W: math.MinInt, H: math.MinInt},
		{W: math.MinInt, H: 2},
	} {
		for _, place := range [][2]int{{0, 0}, {1, 0}, {0, 1}, {1, 1}, {2, 2}, {3, 2}, {-1, 0}, {0, -1}, {math.MaxInt, math.MaxInt}, {math.MinInt, math.MinInt}} {
			expectNothing(t, m, place[0], place[1])
		}
	}
}

// R4: the image is left as it is, with the spare room of its pixels.
func TestTheImageIsNotChanged(t *testing.T) {
	room := sample(30)
	kept := slices.Clone(room)
	m := api.Image{W: 5, H: 4, Pix: room[3:23]}
	for y := -1; y <= m.H; y++ {
		for x := -1; x <= m.W; x++ {
			guess.Around(m, x, y)
			for mode := range 15 {
				guess.At(m, mode, x, y)
			}
		}
	}
	if !slices.Equal(room, kept) {
		t.Errorf("the pixels are %08x; want %08x", room, kept)
	}
}

// R5: asked again, behind other calls and of an image that has changed meanwhile, each call answers by what it is given.
func TestAskedAgain(t *testing.T) {
	m := imageOf(4, 3)
	for range 3 {
		for y := range m.H {
			for x := range m.W {
				expectAround(t, m, x, y, wantAround(m, x, y))
				expectAt(t, m, 10, x, y, wantAt(m, 10, x, y))
				m.Pix[y*m.W+x] += 0x01030507
				expectNothing(t, m, x, y+m.H)
				expectGuess(t, 12, m.Pix[0], m.Pix[1], m.Pix[2], m.Pix[3], wantGuess(12, m.Pix[0], m.Pix[1], m.Pix[2], m.Pix[3]))
			}
		}
	}
}
