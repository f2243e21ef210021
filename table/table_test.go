package table_test

import (
	"math"
	"slices"
	"testing"

	"marquetry/api"
	"marquetry/table"
)

// Sides of images of one pixel, one row, one column, and of several of each.
var sides = [][2]int{{1, 1}, {2, 1}, {1, 2}, {3, 1}, {1, 3}, {2, 2}, {3, 2}, {2, 3}, {7, 5}, {8, 4}, {9, 3}, {15, 2}, {16, 2}, {17, 2}, {5, 7}, {64, 1}, {1, 64}, {33, 30}, {255, 2}, {2, 257}}

// Numbers of colours at the ends of each of Bits, and between.
var counts = []int{1, 2, 3, 4, 5, 9, 15, 16, 17, 18, 100, 255, 256}

// sample answers n numbers by a fixed rule.
func sample(n int) []uint32 {
	list := make([]uint32, n)
	x := uint32(1616)
	for i := range list {
		x = x*1664525 + 1013904223
		list[i] = x ^ x>>13
	}
	return list
}

// colors answers n colours, each another one and none of them 0, in no order.
func colors(n int) []uint32 {
	list := make([]uint32, n)
	for i := range list {
		list[i] = uint32(i+1) * 0x9e3779b1
	}
	return list
}

// imageBy answers an image whose pixels are in the table, by a fixed rule.
func imageBy(list []uint32, w, h int) api.Image {
	m := api.Image{W: w, H: h, Pix: sample(w * h)}
	for i, n := range m.Pix {
		m.Pix[i] = list[int(n>>7)%len(list)]
	}
	return m
}

// perPixel answers how many pixels a packed one has, by how many colours there are.
func perPixel(n int) int {
	if n <= 2 {
		return 8
	}
	if n <= 4 {
		return 4
	}
	if n <= 16 {
		return 2
	}
	return 1
}

// base answers how many numbers there is room for, each in its part of the green.
func base(n int) uint32 {
	return map[int]uint32{8: 2, 4: 4, 2: 16, 1: 256}[perPixel(n)]
}

// wantPack answers what is packed, by products alone: rows of groups, each group from its last pixel to its first.
func wantPack(m api.Image, list []uint32) api.Image {
	per, times := perPixel(len(list)), base(len(list))
	want := api.Image{W: (m.W + per - 1) / per, H: m.H}
	for y := range m.H {
		row := m.Pix[y*m.W : (y+1)*m.W]
		for group := range slices.Chunk(row, per) {
			green := uint32(0)
			for i := len(group) - 1; i >= 0; i-- {
				green = green*times + uint32(slices.Index(list, group[i]))
			}
			want.Pix = append(want.Pix, 0xff000000+green*256)
		}
	}
	return want
}

// wantUnpack answers what is unpacked, by quotients alone.
func wantUnpack(m api.Image, list []uint32, w int) api.Image {
	per, times := perPixel(len(list)), base(len(list))
	want := api.Image{W: w, H: m.H}
	for y := range m.H {
		row := []uint32{}
		for _, p := range m.Pix[y*m.W : (y+1)*m.W] {
			green := p / 256 % 256
			for range per {
				color := uint32(0)
				if number := int(green % times); number < len(list) {
					color = list[number]
				}
				row = append(row, color)
				green /= times
			}
		}
		want.Pix = append(want.Pix, row[:w]...)
	}
	return want
}

func same(m, n api.Image) bool {
	return m.W == n.W && m.H == n.H && slices.Equal(m.Pix, n.Pix)
}

// firstOther answers the place of the first pixel that differs, for what is told.
func firstOther(m, n api.Image) int {
	for i := range min(len(m.Pix), len(n.Pix)) {
		if m.Pix[i] != n.Pix[i] {
			return i
		}
	}
	return min(len(m.Pix), len(n.Pix))
}

func expectPack(t *testing.T, m api.Image, list []uint32, want api.Image) {
	t.Helper()
	got, e := table.Pack(m, list)
	if e != api.OK || !same(got, want) {
		t.Errorf("Pack(%d x %d) by %d colours: %d x %d of %d pixels, other at %d, error %d; want %d x %d", m.W, m.H, len(list), got.W, got.H, len(got.Pix), firstOther(got, want), e, want.W, want.H)
	}
}

func expectUnpack(t *testing.T, m api.Image, list []uint32, w int, want api.Image) {
	t.Helper()
	got, e := table.Unpack(m, list, w)
	if e != api.OK || !same(got, want) {
		t.Errorf("Unpack(%d x %d) by %d colours, %d columns: %d x %d of %d pixels, other at %d, error %d; want %d x %d", m.W, m.H, len(list), w, got.W, got.H, len(got.Pix), firstOther(got, want), e, want.W, want.H)
	}
}

// expectBoth holds that an image is packed as the chapter says, and that Unpack leads back from there.
func expectBoth(t *testing.T, m api.Image, list []uint32) {
	t.Helper()
	want := wantPack(m, list)
	expectPack(t, m, list, want)
	expectUnpack(t, want, list, m.W, m)
}

func isNone(m api.Image) bool {
	return m.W == 0 && m.H == 0 && len(m.Pix) == 0
}

func refusePack(t *testing.T, what string, m api.Image, list []uint32) {
	t.Helper()
	if got, e := table.Pack(m, list); e != api.ErrArg || !isNone(got) {
		t.Errorf("%s: Pack(%d x %d of %d pixels) by %d colours = %d x %d of %d pixels, %d; want no image, ErrArg", what, m.W, m.H, len(m.Pix), len(list), got.W, got.H, len(got.Pix), e)
	}
}

func refuseUnpack(t *testing.T, what string, m api.Image, list []uint32, w int) {
	t.Helper()
	if got, e := table.Unpack(m, list, w); e != api.ErrArg || !isNone(got) {
		t.Errorf("%s: Unpack(%d x %d of %d pixels) by %d colours, %d columns = %d x %d of %d pixels, %d; want no image, ErrArg", what, m.W, m.H, len(m.Pix), len(list), w, got.W, got.H, len(got.Pix), e)
	}
}

func expectColors(t *testing.T, m api.Image, want []uint32) {
	t.Helper()
	if got, ok := table.Colors(m); !ok || !slices.Equal(got, want) {
		t.Errorf("Colors(%d x %d) = %08x, %t; want %08x, true", m.W, m.H, got, ok, want)
	}
}

func refuseColors(t *testing.T, what string, m api.Image) {
	t.Helper()
	if got, ok := table.Colors(m); ok || len(got) != 0 {
		t.Errorf("%s: Colors(%d x %d of %d pixels) = %08x, %t; want none, false", what, m.W, m.H, len(m.Pix), got, ok)
	}
}

// expectTables holds Forth and Back of a table by hand, each from the other.
func expectTables(t *testing.T, whole, less []uint32) {
	t.Helper()
	if got := table.Forth(whole); !slices.Equal(got, less) {
		t.Errorf("Forth(%08x) = %08x; want %08x", whole, got, less)
	}
	if got := table.Back(less); !slices.Equal(got, whole) {
		t.Errorf("Back(%08x) = %08x; want %08x", less, got, whole)
	}
}

// badImages answers images that are not Good: of wrong sides, and of wrong numbers of pixels. Their pixels are 1 and 2.
func badImages() []api.Image {
	pix := []uint32{1, 2, 1, 2, 2, 2, 1, 1, 1, 2, 1, 2}
	long := slices.Repeat([]uint32{1, 2}, api.MaxSide+1)
	return []api.Image{
		{},
		{Pix: []uint32{}},
		{Pix: pix},
		{W: 0, H: 3},
		{W: 4, H: 0, Pix: []uint32{}},
		{W: 0, H: 12, Pix: pix},
		{W: 12, H: 0, Pix: pix},
		{W: -1, H: -12, Pix: pix},
		{W: -4, H: -3, Pix: pix},
		{W: 12, H: -1, Pix: pix},
		{W: -1, H: 12, Pix: pix},
		{W: api.MaxSide + 1, H: 1, Pix: long[:api.MaxSide+1]},
		{W: 1, H: api.MaxSide + 1, Pix: long[:api.MaxSide+1]},
		{W: 2, H: api.MaxSide + 1, Pix: long},
		{W: 1 << 32, H: 1 << 32},
		{W: 1<<32 + 4, H: 3, Pix: pix},
		{W: math.MaxInt, H: math.MaxInt, Pix: pix[:1]},
		{W: math.MinInt, H: 2},
		{W: 4, H: 3, Pix: pix[:11]},
		{W: 4, H: 2, Pix: pix},
		{W: 1, H: 1, Pix: pix[:2]},
		{W: 1, H: 1},
		{W: 12, H: 2, Pix: pix},
		{W: 3, H: 3, Pix: pix[:0]},
	}
}

// P16.1: Colors of images by hand: each colour once, rising as numbers without a sign.
func TestColorsByHand(t *testing.T) {
	for _, c := range []struct {
		w, h      int
		pix, want []uint32
	}{
		{1, 1, []uint32{0}, []uint32{0}},
		{1, 1, []uint32{0xffffffff}, []uint32{0xffffffff}},
		{3, 1, []uint32{5, 5, 5}, []uint32{5}},
		{2, 1, []uint32{2, 1}, []uint32{1, 2}},
		{1, 2, []uint32{2, 1}, []uint32{1, 2}},
		{5, 1, []uint32{9, 7, 8, 9, 7}, []uint32{7, 8, 9}},
		{3, 2, []uint32{0x80000000, 0x7fffffff, 0, 0xffffffff, 1, 0x80000000}, []uint32{0, 1, 0x7fffffff, 0x80000000, 0xffffffff}},
		{2, 3, []uint32{0x01000000, 0x00ff0000, 0x0000ff00, 0x000000ff, 0x00010000, 0x00000100}, []uint32{0xff, 0x100, 0xff00, 0x10000, 0xff0000, 0x1000000}},
		{4, 1, []uint32{0xff101010, 0x00101010, 0xff101010, api.Black}, []uint32{0x00101010, api.Black, 0xff101010}},
	} {
		expectColors(t, api.Image{W: c.w, H: c.h, Pix: c.pix}, c.want)
	}
}

// P16.1: as many colours as MaxColors, and fewer, each several times; and one more, wherever it stands.
func TestNumbersOfColors(t *testing.T) {
	for _, n := range counts {
		list := colors(n)
		rising := slices.Sorted(slices.Values(list))
		expectColors(t, api.Image{W: n, H: 1, Pix: list}, rising)
		expectColors(t, api.Image{W: 1, H: n, Pix: list}, rising)
		expectColors(t, api.Image{W: n, H: 3, Pix: slices.Repeat(list, 3)}, rising)
	}
	many := colors(api.MaxColors)
	for _, at := range []int{0, 1, 255, 256, 257, 400, 513} {
		m := api.Image{W: 2, H: 257, Pix: slices.Insert(slices.Concat(many, many, many[:1]), at, 12345)}
		refuseColors(t, "one more", m)
	}
	refuseColors(t, "one more, each once", api.Image{W: 257, H: 1, Pix: colors(257)})
	refuseColors(t, "all others", api.Image{W: 64, H: 64, Pix: colors(4096)})
}

// P16.1: the longest sides.
func TestColorsOfLongestSides(t *testing.T) {
	list := colors(api.MaxColors)
	rising := slices.Sorted(slices.Values(list))
	for _, side := range [][2]int{{api.MaxSide, 1}, {1, api.MaxSide}, {api.MaxSide, 2}} {
		m := api.Image{W: side[0], H: side[1], Pix: slices.Repeat(list, side[0]*side[1]/len(list))}
		expectColors(t, m, rising)
		m.Pix[len(m.Pix)-1] = 12345
		refuseColors(t, "one more at the end", m)
	}
}

// P16.1: images that are not Good have no colours.
func TestColorsOfBadImages(t *testing.T) {
	for _, m := range badImages() {
		refuseColors(t, "not Good", m)
	}
}

// P16.1: Bits at the ends that the chapter names, at 0 and below, and far above.
func TestBits(t *testing.T) {
	for _, c := range [][2]int{
		{math.MinInt, 3}, {-257, 3}, {-1, 3}, {0, 3}, {1, 3}, {2, 3},
		{3, 2}, {4, 2},
		{5, 1}, {8, 1}, {15, 1}, {16, 1},
		{17, 0}, {18, 0}, {255, 0}, {256, 0}, {257, 0}, {1 << 32, 0}, {1<<32 + 2, 0}, {math.MaxInt, 0},
	} {
		if got := table.Bits(c[0]); got != c[1] {
			t.Errorf("Bits(%d) = %d; want %d", c[0], got, c[1])
		}
	}
}

// P16.1: Forth and Back of tables by hand: each of the four by itself, round at 256.
func TestTablesByHand(t *testing.T) {
	for _, c := range []struct{ whole, less []uint32 }{
		{nil, nil},
		{[]uint32{}, []uint32{}},
		{[]uint32{0}, []uint32{0}},
		{[]uint32{0xdeadbeef}, []uint32{0xdeadbeef}},
		{[]uint32{7, 8, 6}, []uint32{7, 1, 0xfe}},
		{[]uint32{5, 5, 5}, []uint32{5, 0, 0}},
		{[]uint32{0xff000000, 0x00000000}, []uint32{0xff000000, 0x01000000}},
		{[]uint32{0x01020304, 0x00000000, 0x01020304}, []uint32{0x01020304, 0xfffefdfc, 0x01020304}},
		{[]uint32{0xff000000, 0xff0000ff, 0xff00ff00, 0xffff0000}, []uint32{0xff000000, 0x000000ff, 0x0000ff01, 0x00ff0100}},
		{[]uint32{0x10203040, 0x11223344, 0x10203040}, []uint32{0x10203040, 0x01020304, 0xfffefdfc}},
		{[]uint32{0x00000001, 0x00000100, 0x00010000, 0x01000000}, []uint32{0x00000001, 0x000001ff, 0x0001ff00, 0x01ff0000}},
	} {
		expectTables(t, c.whole, c.less)
	}
}

// P16.1: Back of Forth and Forth of Back are the table, however many it has; each is of as many.
func TestTablesBackAndForth(t *testing.T) {
	for _, n := range []int{0, 1, 2, 3, 4, 5, 16, 17, 255, 256, 257, 5000} {
		list := sample(n)
		less := make([]uint32, n)
		for i := range list {
			for shift := 0; shift < 32; shift += 8 {
				ahead := uint32(0)
				if i > 0 {
					ahead = list[i-1] >> shift % 256
				}
				less[i] += (list[i]>>shift%256 + 256 - ahead) % 256 << shift
			}
		}
		expectTables(t, list, less)
		if got := table.Forth(table.Back(list)); !slices.Equal(got, list) {
			t.Errorf("Forth of Back of %d colours: %08x; want %08x", n, got, list)
		}
	}
}

// P16.2: images and what they are packed as, by hand, both ways; the chapter's example first.
func TestPackByHand(t *testing.T) {
	sixteen := colors(16)
	seventeen := colors(17)
	for _, c := range []struct {
		what        string
		list        []uint32
		w, h        int
		pix, packed []uint32
	}{
		{"two colours, eight pixels in one", []uint32{7, 9}, 8, 1, []uint32{9, 7, 7, 9, 9, 9, 7, 7}, []uint32{0xff003900}},
		{"the last pixel highest", []uint32{7, 9}, 8, 1, []uint32{7, 7, 7, 7, 7, 7, 7, 9}, []uint32{0xff008000}},
		{"eight of the second", []uint32{7, 9}, 8, 1, []uint32{9, 9, 9, 9, 9, 9, 9, 9}, []uint32{0xff00ff00}},
		{"nine pixels", []uint32{7, 9}, 9, 1, []uint32{7, 9, 7, 9, 7, 9, 7, 9, 9}, []uint32{0xff00aa00, 0xff000100}},
		{"each row by itself", []uint32{9, 7}, 3, 2, []uint32{7, 9, 9, 9, 9, 7}, []uint32{0xff000100, 0xff000400}},
		{"one colour", []uint32{0xdeadbeef}, 3, 1, []uint32{0xdeadbeef, 0xdeadbeef, 0xdeadbeef}, []uint32{0xff000000}},
		{"one pixel", []uint32{1, 0}, 1, 1, []uint32{0}, []uint32{0xff000100}},
		{"one column", []uint32{1, 2, 3}, 1, 3, []uint32{2, 3, 1}, []uint32{0xff000100, 0xff000200, 0xff000000}},
		{"three colours, four pixels in one", []uint32{7, 8, 9}, 5, 1, []uint32{9, 7, 8, 9, 7}, []uint32{0xff009200, 0xff000000}},
		{"four colours", []uint32{7, 8, 9, 6}, 4, 1, []uint32{6, 9, 8, 7}, []uint32{0xff001b00}},
		{"five colours, two pixels in one", []uint32{5, 4, 3, 2, 1}, 3, 1, []uint32{1, 2, 3}, []uint32{0xff003400, 0xff000200}},
		{"sixteen colours", sixteen, 2, 2, []uint32{sixteen[15], sixteen[0], sixteen[1], sixteen[15]}, []uint32{0xff000f00, 0xff00f100}},
		{"seventeen colours, one pixel in one", seventeen, 3, 1, []uint32{seventeen[16], seventeen[0], seventeen[15]}, []uint32{0xff001000, 0xff000000, 0xff000f00}},
	} {
		per := perPixel(len(c.list))
		whole := api.Image{W: c.w, H: c.h, Pix: c.pix}
		packed := api.Image{W: (c.w + per - 1) / per, H: c.h, Pix: c.packed}
		if got, e := table.Pack(whole, c.list); e != api.OK || !same(got, packed) {
			t.Errorf("%s: Pack = %d x %d %08x, %d; want %d x %d %08x", c.what, got.W, got.H, got.Pix, e, packed.W, packed.H, packed.Pix)
		}
		if got, e := table.Unpack(packed, c.list, c.w); e != api.OK || !same(got, whole) {
			t.Errorf("%s: Unpack = %d x %d %08x, %d; want %d x %d %08x", c.what, got.W, got.H, got.Pix, e, whole.W, whole.H, whole.Pix)
		}
	}
}

// P16.2: images of many sides by tables of many numbers of colours; rows that end at each place in a packed pixel among them.
func TestManyImages(t *testing.T) {
	for _, n := range counts {
		list := colors(n)
		for _, side := range sides {
			expectBoth(t, imageBy(list, side[0], side[1]), list)
		}
		for w := 1; w <= 26; w++ {
			expectBoth(t, imageBy(list, w, 3), list)
			// The last number everywhere, so that what lacks is told from what is there.
			expectBoth(t, api.Image{W: w, H: 3, Pix: slices.Repeat(list[n-1:], 3*w)}, list)
		}
	}
}

// P16.2: Unpack of Pack by the image's own colours is the image.
func TestByItsOwnColors(t *testing.T) {
	for _, n := range counts {
		for _, side := range sides {
			m := imageBy(colors(n), side[0], side[1])
			list, ok := table.Colors(m)
			if !ok {
				t.Fatalf("Colors of %d x %d of %d colours: false", m.W, m.H, n)
			}
			expectBoth(t, m, list)
			packed, e := table.Pack(m, list)
			if e != api.OK {
				t.Errorf("Pack(%d x %d) by its own %d colours: error %d", m.W, m.H, len(list), e)
			}
			expectUnpack(t, packed, list, m.W, m)
		}
	}
}

// P16.2: every number of a table of MaxColors, each in the green of a pixel of its own.
func TestEveryNumber(t *testing.T) {
	list := colors(api.MaxColors)
	want := api.Image{W: 256, H: 1}
	for i := range uint32(256) {
		want.Pix = append(want.Pix, 0xff000000|i<<8)
	}
	m := api.Image{W: 256, H: 1, Pix: list}
	expectPack(t, m, list, want)
	expectUnpack(t, want, list, 256, m)
}

// P16.2: a colour that is in the table twice has its first number; how many go together hangs on all that are in the table.
func TestTwiceInTheTable(t *testing.T) {
	for _, c := range []struct {
		what              string
		list, pix, packed []uint32
	}{
		{"both the same", []uint32{5, 5}, []uint32{5, 5, 5}, []uint32{0xff000000}},
		{"the first and the last", []uint32{5, 6, 5}, []uint32{5, 6, 5}, []uint32{0xff000400}},
		{"behind another one", []uint32{4, 5, 6, 5}, []uint32{5, 6, 4}, []uint32{0xff000900}},
		{"three times", []uint32{4, 5, 5, 5, 6}, []uint32{5, 6, 5}, []uint32{0xff004100, 0xff000100}},
		{"one colour all over", slices.Repeat([]uint32{9}, 256), []uint32{9, 9, 9}, []uint32{0xff000000, 0xff000000, 0xff000000}},
		{"one colour but for the last", append(slices.Repeat([]uint32{9}, 255), 8), []uint32{9, 8, 9}, []uint32{0xff000000, 0xff00ff00, 0xff000000}},
	} {
		m := api.Image{W: 3, H: 1, Pix: c.pix}
		got, e := table.Pack(m, c.list)
		if e != api.OK || got.W != len(c.packed) || got.H != 1 || !slices.Equal(got.Pix, c.packed) {
			t.Errorf("%s: Pack = %d x %d %08x, %d; want %08x", c.what, got.W, got.H, got.Pix, e, c.packed)
		}
		expectUnpack(t, got, c.list, 3, m)
	}
	// The later numbers of a colour are that colour too, the other way round.
	expectUnpack(t, api.Image{W: 1, H: 1, Pix: []uint32{0xff00e400}}, []uint32{4, 5, 6, 5}, 4, api.Image{W: 4, H: 1, Pix: []uint32{4, 5, 6, 5}})
}

// P16.2: a number that is not in the table is the pixel 0, and not the colour of the number 0.
func TestNumberThatIsNotInTheTable(t *testing.T) {
	for _, c := range []struct {
		list         []uint32
		w            int
		packed, want []uint32
	}{
		{[]uint32{7}, 8, []uint32{0xff005500}, []uint32{0, 7, 0, 7, 0, 7, 0, 7}},
		{[]uint32{7, 8, 9}, 4, []uint32{0xff00e400}, []uint32{7, 8, 9, 0}},
		{[]uint32{7, 8, 9}, 3, []uint32{0xff00ff00}, []uint32{0, 0, 0}},
		{[]uint32{5, 6, 7, 8, 9}, 4, []uint32{0xff005400, 0xff00f000}, []uint32{9, 0, 5, 0}},
	} {
		m := api.Image{W: len(c.packed), H: 1, Pix: c.packed}
		if got, e := table.Unpack(m, c.list, c.w); e != api.OK || got.W != c.w || got.H != 1 || !slices.Equal(got.Pix, c.want) {
			t.Errorf("Unpack(%08x) by %d = %d x %d %08x, %d; want %08x", c.packed, c.list, got.W, got.H, got.Pix, e, c.want)
		}
	}
	for _, n := range counts {
		list, per := colors(n), perPixel(n)
		m := api.Image{W: 256, H: 1}
		for green := range uint32(256) {
			m.Pix = append(m.Pix, api.Black|green<<8)
		}
		for w := 256*per - per + 1; w <= 256*per; w++ {
			expectUnpack(t, m, list, w, wantUnpack(m, list, w))
		}
	}
}

// P16.2: Unpack asks the green alone, and of it only the pixels that are there.
func TestOnlyGreenCounts(t *testing.T) {
	for _, n := range counts {
		list, per := colors(n), perPixel(n)
		for _, wide := range []int{1, 2, 5} {
			m := api.Image{W: wide, H: 4, Pix: sample(4 * wide)}
			for w := wide*per - per + 1; w <= wide*per; w++ {
				want := wantUnpack(m, list, w)
				expectUnpack(t, m, list, w, want)
				for _, others := range []uint32{0xffff00ff, 0xff000000, 0x00ff0000, 0x000000ff} {
					m.Pix[len(m.Pix)-1] ^= others
					expectUnpack(t, m, list, w, want)
				}
			}
		}
	}
	// What lacks behind the third pixel is not asked.
	m := api.Image{W: 1, H: 1, Pix: []uint32{0xff00fd00}}
	expectUnpack(t, m, []uint32{7, 9}, 3, api.Image{W: 3, H: 1, Pix: []uint32{9, 7, 9}})
}

// P16.2: the longest sides, both ways.
func TestLongestSides(t *testing.T) {
	for _, n := range []int{1, 2, 3, 4, 5, 16, 17, 256} {
		list := colors(n)
		for _, side := range [][2]int{{api.MaxSide, 1}, {1, api.MaxSide}, {api.MaxSide, 3}, {3, api.MaxSide}, {api.MaxSide - 1, 2}} {
			expectBoth(t, imageBy(list, side[0], side[1]), list)
		}
	}
}

// P16.2: images that are not Good are refused both ways, whatever else is asked.
func TestBadImages(t *testing.T) {
	for _, m := range badImages() {
		for _, n := range []int{2, 4, 16, 17} {
			list := append([]uint32{1, 2}, colors(n-2)...)
			refusePack(t, "not Good", m, list)
			for _, w := range []int{1, 8, m.W, m.W * perPixel(n)} {
				refuseUnpack(t, "not Good", m, list, w)
			}
		}
	}
	for _, side := range sides {
		w, h := side[0], side[1]
		pix := slices.Repeat([]uint32{1}, w*h+w+40)
		for _, n := range []int{0, w*h - w, w*h - 1, w*h + 1, w*h + w, w*h + 40} {
			m := api.Image{W: w, H: h, Pix: pix[:n]}
			refusePack(t, "another number of pixels", m, []uint32{1, 2})
			refuseUnpack(t, "another number of pixels", m, []uint32{1, 2}, w*8)
			refuseUnpack(t, "another number of pixels", m, colors(17), w)
		}
	}
}

// P16.2: tables of none and of more than MaxColors are refused both ways.
func TestWrongTables(t *testing.T) {
	for _, n := range []int{0, 257, 258, 512, 5000} {
		list := colors(n)
		for _, side := range sides {
			m := imageBy(append(list, 1)[:1], side[0], side[1])
			refusePack(t, "a table of a wrong size", m, list)
			for _, w := range []int{m.W, m.W * 2, m.W * 4, m.W * 8} {
				refuseUnpack(t, "a table of a wrong size", m, list, w)
			}
		}
	}
	one := api.Image{W: 1, H: 1, Pix: []uint32{0}}
	refusePack(t, "no table", one, nil)
	refuseUnpack(t, "no table", one, nil, 1)
	// As many as MaxColors are not too many, though most of them are the same.
	many := slices.Repeat([]uint32{7}, api.MaxColors)
	expectPack(t, api.Image{W: 1, H: 1, Pix: []uint32{7}}, many, api.Image{W: 1, H: 1, Pix: []uint32{api.Black}})
	refusePack(t, "one more of the same", api.Image{W: 1, H: 1, Pix: []uint32{7}}, append(many, 7))
}

// P16.2: a pixel that is not in the table, wherever it stands.
func TestPixelThatIsNotInTheTable(t *testing.T) {
	for _, n := range counts {
		list := colors(n)
		for _, at := range []int{0, 1, 10, 11, 20, 31, 32} {
			m := imageBy(list, 11, 3)
			for _, p := range []uint32{0, 1, m.Pix[at] ^ 1, m.Pix[at] ^ 0x80000000} {
				if !slices.Contains(list, p) {
					m.Pix[at] = p
					refusePack(t, "not in the table", m, list)
				}
			}
		}
	}
	// What lies behind the table, in its spare room, is not in it.
	refusePack(t, "spare room", api.Image{W: 1, H: 1, Pix: []uint32{9}}, []uint32{7, 8, 9}[:2])
}

// P16.2: Unpack of numbers of columns that may not be: below 1, above MaxSide, and of other numbers of blocks.
func TestWrongColumns(t *testing.T) {
	for _, n := range counts {
		list, per := colors(n), perPixel(n)
		for _, wide := range []int{1, 2, 3, 16, 40} {
			m := imageBy(list, wide, 2)
			for _, w := range []int{math.MinInt, -8, -1, 0, wide*per - per, wide*per + 1, wide*per + per, wide*per + 1<<32, api.MaxSide, api.MaxSide + 1, api.MaxCanvas, api.MaxCanvas + 1, math.MaxInt} {
				refuseUnpack(t, "other columns", m, list, w)
			}
			for w := 1; w <= 400; w++ {
				if (w+per-1)/per != wide {
					refuseUnpack(t, "other columns", m, list, w)
				}
			}
		}
		// Good, and just as many blocks, but of more columns than may be.
		if per > 1 {
			m := imageBy(list, api.MaxSide/per+1, 1)
			for w := api.MaxSide + 1; w <= api.MaxSide+per; w++ {
				refuseUnpack(t, "above MaxSide", m, list, w)
			}
		}
		full := imageBy(list, api.MaxSide/per, 1)
		refuseUnpack(t, "above MaxSide", full, list, api.MaxSide+1)
		expectUnpack(t, full, list, api.MaxSide, wantUnpack(full, list, api.MaxSide))
	}
}

// R4: what is handed in is left as it is, with the spare room of its lists.
func TestWhatIsHandedInIsNotChanged(t *testing.T) {
	for _, n := range []int{1, 2, 3, 4, 9, 16, 17, 256} {
		room := slices.Concat([]uint32{1, 2, 3}, colors(n), []uint32{4, 5, 6, 7, 8, 9, 10, 11, 12})
		list := room[3 : 3+n]
		space := imageBy(list, 9, 9).Pix
		keptRoom, keptSpace := slices.Clone(room), slices.Clone(space)
		wide := (9 + perPixel(n) - 1) / perPixel(n)
		for _, h := range []int{0, 6, 7} {
			whole := api.Image{W: 9, H: h, Pix: space[5:59]}
			packed := api.Image{W: wide, H: h, Pix: space[5 : 5+6*wide]}
			table.Colors(whole)
			table.Pack(whole, list)
			table.Pack(whole, list[:n-1])
			table.Pack(whole, nil)
			table.Unpack(packed, list, 9)
			table.Unpack(packed, list, 0)
			table.Unpack(packed, nil, 9)
			table.Forth(list)
			table.Back(list)
			if !slices.Equal(room, keptRoom) || !slices.Equal(space, keptSpace) {
				t.Fatalf("by %d colours: %08x, %08x; want %08x, %08x", n, room, space, keptRoom, keptSpace)
			}
		}
	}
}

// expectNew holds that what a call answers shares nothing with what is handed in, nor with another answer.
func expectNew(t *testing.T, name string, call func() []uint32, handed ...[]uint32) {
	t.Helper()
	first := call()
	kept := slices.Clone(first)
	second := call()
	if len(kept) == 0 || !slices.Equal(second, kept) {
		t.Errorf("%s: %08x, and then %08x", name, kept, second)
	}
	// To the end of the room behind it, which is not shared either.
	second = second[:cap(second)]
	for i := range second {
		second[i] ^= 0xffffffff
	}
	before := [][]uint32{}
	for _, list := range handed {
		for i := range list {
			list[i] ^= 0x01010101
		}
		before = append(before, slices.Clone(list))
	}
	if !slices.Equal(first, kept) {
		t.Errorf("%s: the answer has changed: %08x; want %08x", name, first, kept)
	}
	clear(first[:cap(first)])
	for i, list := range handed {
		if !slices.Equal(list, before[i]) {
			t.Errorf("%s: what was handed in has changed with the answer", name)
		}
		for j := range list {
			list[j] ^= 0x01010101
		}
	}
}

// R4: what is answered is new memory; also where it is the same as what was handed in.
func TestAnswersAreNew(t *testing.T) {
	for _, n := range []int{1, 2, 3, 17, 256} {
		list := colors(n)
		m := imageBy(list, 9, 6)
		packed := wantPack(m, list)
		expectNew(t, "Colors", func() []uint32 { got, _ := table.Colors(m); return got }, m.Pix)
		expectNew(t, "Pack", func() []uint32 { got, _ := table.Pack(m, list); return got.Pix }, m.Pix, list)
		expectNew(t, "Unpack", func() []uint32 { got, _ := table.Unpack(packed, list, 9); return got.Pix }, packed.Pix, list)
		expectNew(t, "Forth", func() []uint32 { return table.Forth(list) }, list)
		expectNew(t, "Back", func() []uint32 { return table.Back(list) }, list)
	}
}

// R5: asked again, behind other calls and of lists that have changed meanwhile, each call answers by what it is given.
func TestAskedAgain(t *testing.T) {
	list := colors(16)
	for i := range 40 {
		m := imageBy(list, 7, 6)
		own := slices.Compact(slices.Sorted(slices.Values(m.Pix)))
		expectColors(t, m, own)
		expectBoth(t, m, list)
		expectBoth(t, m, own)
		refusePack(t, "no more in the table", m, []uint32{1, 2})
		refuseColors(t, "not Good", api.Image{W: 7, H: 6, Pix: m.Pix[1:]})
		list[i%16] += 0x01030507
	}
}
