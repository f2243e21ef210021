package green_test

import (
	"math"
	"slices"
	"testing"

	"marquetry/api"
	"marquetry/green"
)

type way func(api.Image) (api.Image, api.Errno)

// Both ways, told by their names.
var ways = map[string]way{"Forth": green.Forth, "Back": green.Back}

// Sides of images of one pixel, one row, one column, and of several of each.
var sides = [][2]int{{1, 1}, {2, 1}, {1, 2}, {3, 1}, {1, 3}, {2, 2}, {3, 2}, {2, 3}, {7, 5}, {5, 7}, {64, 1}, {1, 64}, {33, 30}, {255, 2}, {2, 257}}

// sample answers n pixels by a fixed rule.
func sample(n int) []uint32 {
	list := make([]uint32, n)
	x := uint32(1515)
	for i := range list {
		x = x*1664525 + 1013904223
		list[i] = x ^ x>>13
	}
	return list
}

func imageOf(w, h int) api.Image {
	return api.Image{W: w, H: h, Pix: sample(w * h)}
}

// wantPart answers the part with so many times green more, round at 256.
func wantPart(part, of uint32, times int) uint32 {
	n := int(part) + times*int(of)
	for n < 0 {
		n += 256
	}
	for n > 255 {
		n -= 256
	}
	return uint32(n)
}

// wantPixel answers the pixel with so many times green more in red and in blue: -1 is Forth, 1 is Back.
func wantPixel(p uint32, times int) uint32 {
	a, r, g, b := p/0x1000000, p/0x10000%256, p/0x100%256, p%256
	return a*0x1000000 + wantPart(r, g, times)*0x10000 + g*0x100 + wantPart(b, g, times)
}

func wantImage(m api.Image, times int) api.Image {
	want := api.Image{W: m.W, H: m.H, Pix: make([]uint32, len(m.Pix))}
	for i, p := range m.Pix {
		want.Pix[i] = wantPixel(p, times)
	}
	return want
}

func same(m, n api.Image) bool {
	return m.W == n.W && m.H == n.H && slices.Equal(m.Pix, n.Pix)
}

// firstOther answers the place of the first pixel that differs, for what is told.
func firstOther(m, n api.Image) int {
	for i := range min(len(m.Pix), len(n.Pix)) {
		if m.Pix[i] != n.Pix[i] {
			return i
		}
	}
	return min(len(m.Pix), len(n.Pix))
}

func expect(t *testing.T, name string, do way, m, want api.Image) {
	t.Helper()
	got, e := do(m)
	if e != api.OK || !same(got, want) {
		t.Errorf("%s(%d x %d): %d x %d of %d pixels, other at %d, error %d", name, m.W, m.H, got.W, got.H, len(got.Pix), firstOther(got, want), e)
	}
}

// expectBoth holds that each way is what the chapter says, and that each leads back from the other.
func expectBoth(t *testing.T, m api.Image) {
	t.Helper()
	expect(t, "Forth", green.Forth, m, wantImage(m, -1))
	expect(t, "Back", green.Back, m, wantImage(m, 1))
	less, _ := green.Forth(m)
	expect(t, "Back of Forth", green.Back, less, m)
	whole, _ := green.Back(m)
	expect(t, "Forth of Back", green.Forth, whole, m)
}

// expectRefused holds that both ways answer ErrArg beside no image.
func expectRefused(t *testing.T, m api.Image) {
	t.Helper()
	for name, do := range ways {
		if got, e := do(m); e != api.ErrArg || got.W != 0 || got.H != 0 || len(got.Pix) != 0 {
			t.Errorf("%s(%d x %d of %d pixels) = %d x %d of %d pixels, %d; want no image, ErrArg", name, m.W, m.H, len(m.Pix), got.W, got.H, len(got.Pix), e)
		}
	}
}

// P15.1: single pixels by hand, the chapter's example first.
func TestPixelsByHand(t *testing.T) {
	for _, c := range []struct {
		what        string
		whole, less uint32
	}{
		{"the chapter's example", 0x00101010, 0x00001000},
		{"nothing", 0, 0},
		{"red and blue above green", 0xff302040, 0xff102020},
		{"red round at 256", 0xff102030, 0xfff02010},
		{"blue round at 256", 0xff302010, 0xff1020f0},
		{"both round at 256", 0x80000100, 0x80ff01ff},
		{"green 0", 0x7f12009a, 0x7f12009a},
		{"green 0, the others at their ends", 0x00ff0000, 0x00ff0000},
		{"green 1", 0x0101010f, 0x0100010e},
		{"green 127", 0x01807f7e, 0x01017fff},
		{"green 128", 0x01808000, 0x01008080},
		{"green 255", 0xff00ff00, 0xff01ff01},
		{"green 255, the others too", 0xffffffff, 0xff00ff00},
		{"green 255, the others between", 0x0080fffe, 0x0081ffff},
		{"Black", api.Black, api.Black},
	} {
		whole := api.Image{W: 1, H: 1, Pix: []uint32{c.whole}}
		less := api.Image{W: 1, H: 1, Pix: []uint32{c.less}}
		if got, e := green.Forth(whole); e != api.OK || !same(got, less) {
			t.Errorf("%s: Forth(%08x) = %08x, %d; want %08x", c.what, c.whole, got.Pix, e, c.less)
		}
		if got, e := green.Back(less); e != api.OK || !same(got, whole) {
			t.Errorf("%s: Back(%08x) = %08x, %d; want %08x", c.what, c.less, got.Pix, e, c.whole)
		}
	}
}

// P15.1: an image of several pixels by hand, the chapter's example among them: each pixel by its own green.
func TestImageByHand(t *testing.T) {
	whole := api.Image{W: 3, H: 2, Pix: []uint32{
		0x00101010, 0xff102030, 0x8000ff00,
		0x12345678, 0x80ff01ff, 0xfe010002,
	}}
	less := api.Image{W: 3, H: 2, Pix: []uint32{
		0x00001000, 0xfff02010, 0x8001ff01,
		0x12de5622, 0x80fe01fe, 0xfe010002,
	}}
	expect(t, "Forth", green.Forth, whole, less)
	expect(t, "Back", green.Back, less, whole)
}

// P15.1: every red, and every blue, with every green, in images of 256 x 256.
func TestEveryColourWithEveryGreen(t *testing.T) {
	for _, alpha := range []uint32{0, 0x7f000000, 0xff000000} {
		m := api.Image{W: 256, H: 256}
		for g := range uint32(256) {
			for v := range uint32(256) {
				// Blue is another number than red, so that the two are not taken for each other.
				m.Pix = append(m.Pix, alpha|v<<16|g<<8|(v*3+85)%256)
			}
		}
		expectBoth(t, m)
	}
}

// P15.1: images of many sides.
func TestManyImages(t *testing.T) {
	for _, side := range sides {
		expectBoth(t, imageOf(side[0], side[1]))
	}
}

// P15.1: the longest sides.
func TestLongestSides(t *testing.T) {
	for _, side := range [][2]int{{api.MaxSide, 1}, {1, api.MaxSide}, {api.MaxSide, 3}, {3, api.MaxSide}, {api.MaxSide - 1, 2}} {
		expectBoth(t, imageOf(side[0], side[1]))
	}
}

// P15.1: alpha and green stay, whatever red and blue are.
func TestAlphaAndGreenStay(t *testing.T) {
	m := imageOf(61, 59)
	for name, do := range ways {
		got, e := do(m)
		if e != api.OK || len(got.Pix) != len(m.Pix) {
			t.Fatalf("%s: %d pixels, error %d", name, len(got.Pix), e)
		}
		for i := range got.Pix {
			if (got.Pix[i]^m.Pix[i])&0xff00ff00 != 0 {
				t.Errorf("%s: pixel %d is %08x; it was %08x", name, i, got.Pix[i], m.Pix[i])
			}
		}
	}
}

// P15.1: an image of green 0 alone stays as it is.
func TestWithoutGreen(t *testing.T) {
	m := imageOf(17, 15)
	for i := range m.Pix {
		m.Pix[i] &= 0xffff00ff
	}
	expect(t, "Forth", green.Forth, m, m)
	expect(t, "Back", green.Back, m, m)
}

// P15.1: sides of 0, below 0 and above the longest, with as many pixels as they would ask for, with others, and with none.
func TestWrongSides(t *testing.T) {
	pix := sample(12)
	for _, m := range []api.Image{
		{},
		{Pix: []uint32{}},
		{Pix: pix},
		{W: 0, H: 3},
		{W: 4, H: 0, Pix: []uint32{}},
		{W: 0, H: 12, Pix: pix},
		{W: 12, H: 0, Pix: pix},
		{W: -1, H: -12, Pix: pix},
		{W: -4, H: -3, Pix: pix},
		{W: 12, H: -1, Pix: pix},
		{W: -1, H: 12, Pix: pix},
		{W: -1, H: 0},
		{W: api.MaxSide + 1, H: 1, Pix: make([]uint32, api.MaxSide+1)},
		{W: 1, H: api.MaxSide + 1, Pix: make([]uint32, api.MaxSide+1)},
		{W: 2, H: api.MaxSide + 1, Pix: make([]uint32, 2*api.MaxSide+2)},
		{W: 1 << 32, H: 1 << 32},
		{W: 1<<32 + 4, H: 3, Pix: pix},
		{W: 4, H: 1<<32 + 3, Pix: pix},
		{W: math.MaxInt, H: math.MaxInt, Pix: pix[:1]},
		{W: math.MinInt, H: math.MinInt},
		{W: math.MinInt, H: 2},
		{W: 2, H: math.MinInt},
	} {
		expectRefused(t, m)
	}
}

// P15.1: fewer and more pixels than the sides ask for, and none; spare room behind them is not counted.
func TestWrongNumbersOfPixels(t *testing.T) {
	for _, side := range sides {
		w, h := side[0], side[1]
		pix := sample(w*h + 40)
		for _, n := range []int{0, 1, w, h, w + h, w*h - w, w*h - h, w*h - 1, w*h + 1, w*h + w, w*h + h, w*h + 40} {
			if n >= 0 && n < len(pix) && n != w*h {
				expectRefused(t, api.Image{W: w, H: h, Pix: pix[:n]})
			}
		}
		expectRefused(t, api.Image{W: w, H: h})
	}
}

// R4: the image is left as it is, with the spare room of its pixels.
func TestWhatIsHandedInIsNotChanged(t *testing.T) {
	room := sample(80)
	kept := slices.Clone(room)
	for name, do := range ways {
		for _, m := range []api.Image{{W: 9, H: 6, Pix: room[5:59]}, {W: 54, H: 1, Pix: room[5:59]}, {W: 9, H: 6, Pix: room[5:58]}, {W: 0, H: 6, Pix: room[5:59]}, {W: 9, H: 6, Pix: room[:0]}} {
			do(m)
			if !slices.Equal(room, kept) {
				t.Fatalf("%s(%d x %d): the pixels are %08x; want %08x", name, m.W, m.H, room, kept)
			}
		}
	}
}

// R4: what is answered shares nothing with what was handed in, nor with another answer; also where every pixel stays.
func TestAnswersAreNew(t *testing.T) {
	for name, do := range ways {
		for _, m := range []api.Image{imageOf(9, 6), {W: 9, H: 6, Pix: make([]uint32, 54)}} {
			first, _ := do(m)
			kept := slices.Clone(first.Pix)
			second, _ := do(m)
			for i := range second.Pix {
				second.Pix[i] ^= 0xffffffff
			}
			for i := range m.Pix {
				m.Pix[i]++
			}
			changed := slices.Clone(m.Pix)
			if len(kept) != 54 || !slices.Equal(first.Pix, kept) {
				t.Errorf("%s: the pixels are %08x; want %08x", name, first.Pix, kept)
			}
			clear(first.Pix)
			if !slices.Equal(m.Pix, changed) {
				t.Errorf("%s: the image has changed with the answer", name)
			}
		}
	}
}

// R5: asked again, behind other calls and of an image that has changed meanwhile, each call answers by what it is given.
func TestAskedAgain(t *testing.T) {
	m := imageOf(7, 6)
	for i := range 40 {
		expectBoth(t, m)
		expectRefused(t, api.Image{W: 7, H: 6, Pix: m.Pix[1:]})
		expectBoth(t, api.Image{W: 6, H: 7, Pix: m.Pix})
		m.Pix[i] += 0x01030507
	}
}
