package pixel_test

import (
	"math"
	"slices"
	"testing"

	"marquetry/api"
	"marquetry/pixel"
)

// The four's places in a pixel: how far alpha, red, green and blue stand from its lowest bit.
var shifts = [4]int{24, 16, 8, 0}

// Pixels at the ends and of the everyday kind.
var pixels = []uint32{0, 1, 0x7f, 0x80, 0xff, 0x100, 0xff00, 0x10000, 0xff0000, 0x1000000, 0xff000000, 0x80808080, 0x7f7f7f7f, 0x01010101,
	0x00ff00ff, 0xff00ff00, 0x12345678, 0xdeadbeef, 0xff112233, 0x80402010, 0x10204080, 0xfefdfcfb, 0x80000000, 0x7fffffff, 0xfffffffe, 0xffffffff}

// sample answers n pixels by a fixed rule.
func sample(n int) []uint32 {
	list := make([]uint32, n)
	x := uint32(2024)
	for i := range list {
		x = x*1664525 + 1013904223
		list[i] = x ^ x>>13
	}
	return list
}

// part answers the number at one of the four places, by dividing alone.
func part(p uint32, place int) int {
	by := uint32(1)
	for range 3 - place {
		by *= 256
	}
	return int(p / by % 256)
}

// joined answers the pixel of four numbers that are from 0 to 255.
func joined(four [4]int) uint32 {
	p := uint32(0)
	for _, v := range four {
		p = p*256 + uint32(v)
	}
	return p
}

// by answers the pixel whose four are made by one rule of those of three others.
func by(p, q, s uint32, rule func(p, q, s int) int) uint32 {
	var four [4]int
	for place := range four {
		four[place] = rule(part(p, place), part(q, place), part(s, place))
	}
	return joined(four)
}

// The chapter's rules of one number of the four each, told apart from how Go divides and cuts off.

func addRule(p, q, _ int) int {
	if p+q > 255 {
		return p + q - 256
	}
	return p + q
}

func subRule(p, q, _ int) int {
	if p < q {
		return p - q + 256
	}
	return p - q
}

func avgRule(p, q, _ int) int {
	return int(math.Floor(float64(p+q) / 2))
}

func fullRule(l, t, tl int) int {
	return cutRule(l + t - tl)
}

func halfRule(p, tl, _ int) int {
	return cutRule(p + int(math.Trunc(float64(p-tl)/2)))
}

func cutRule(v int) int {
	if v < 0 {
		return 0
	}
	if v > 255 {
		return 255
	}
	return v
}

// wantPick answers by the chapter's words.
func wantPick(l, t, tl uint32) uint32 {
	fromL, fromT := 0.0, 0.0
	for place := range 4 {
		guess := part(l, place) + part(t, place) - part(tl, place)
		fromL += math.Abs(float64(guess - part(l, place)))
		fromT += math.Abs(float64(guess - part(t, place)))
	}
	if fromL < fromT {
		return l
	}
	return t
}

func expectTwo(t *testing.T, name string, call func(p, q uint32) uint32, p, q, want uint32) {
	t.Helper()
	if got := call(p, q); got != want {
		t.Errorf("%s(%08x, %08x) = %08x; want %08x", name, p, q, got, want)
	}
}

func expectThree(t *testing.T, name string, call func(l, t, tl uint32) uint32, l, top, tl, want uint32) {
	t.Helper()
	if got := call(l, top, tl); got != want {
		t.Errorf("%s(%08x, %08x, %08x) = %08x; want %08x", name, l, top, tl, got, want)
	}
}

func expectParts(t *testing.T, p uint32, a, r, g, b uint8) {
	t.Helper()
	if a1, r1, g1, b1 := pixel.Parts(p); a1 != a || r1 != r || g1 != g || b1 != b {
		t.Errorf("Parts(%08x) = %d, %d, %d, %d; want %d, %d, %d, %d", p, a1, r1, g1, b1, a, r, g, b)
	}
	if q := pixel.Make(a, r, g, b); q != p {
		t.Errorf("Make(%d, %d, %d, %d) = %08x; want %08x", a, r, g, b, q, p)
	}
}

func expectGood(t *testing.T, w, h int, pix []uint32, want bool) {
	t.Helper()
	if good := pixel.Good(api.Image{W: w, H: h, Pix: pix}); good != want {
		t.Errorf("Good(%d, %d, %d pixels) = %v; want %v", w, h, len(pix), good, want)
	}
}

// everyTwo holds a call against a rule, with every two numbers at each of the four places, and other ones beside them.
func everyTwo(t *testing.T, name string, call func(p, q uint32) uint32, rule func(p, q, s int) int) {
	t.Helper()
	for p := range 256 {
		for q := range 256 {
			// Each place goes through all twos: each of these four is turned back into p and q.
			x := joined([4]int{p, q, 255 - p, (p + 101) % 256})
			y := joined([4]int{q, p, q, 255 - q})
			if got, want := call(x, y), by(x, y, 0, rule); got != want {
				t.Fatalf("%s(%08x, %08x) = %08x; want %08x", name, x, y, got, want)
			}
		}
	}
	for _, p := range slices.Concat(pixels, sample(300)) {
		for _, q := range slices.Concat(pixels, sample(300)) {
			if got, want := call(p, q), by(p, q, 0, rule); got != want {
				t.Fatalf("%s(%08x, %08x) = %08x; want %08x", name, p, q, got, want)
			}
		}
	}
}

// alone holds a call of two pixels that are the same at all places but one: the neighbours are as where that one is 0 and 0.
func alone(t *testing.T, name string, call func(p, q uint32) uint32, rule func(p, q, s int) int) {
	t.Helper()
	for place, shift := range shifts {
		for _, beside := range [][2]uint32{{0, 0}, {0x55667788, 0x11223344}, {0x11223344, 0x55667788}, {0xffffffff, 0xffffffff}, {0, 0xffffffff}, {0xffffffff, 0}} {
			rest := ^(uint32(0xff) << shift)
			still := call(beside[0]&rest, beside[1]&rest) & rest
			for _, v := range [][2]uint32{{0, 0}, {0, 1}, {1, 0}, {1, 255}, {255, 1}, {127, 128}, {128, 128}, {0, 255}, {255, 0}, {255, 255}} {
				got := call(beside[0]&rest|v[0]<<shift, beside[1]&rest|v[1]<<shift)
				if got&rest != still || part(got, place) != rule(int(v[0]), int(v[1]), 0) {
					t.Errorf("%s of %d and %d at place %d, beside %08x and %08x: %08x", name, v[0], v[1], place, beside[0]&rest, beside[1]&rest, got)
				}
			}
		}
	}
}

// P11.1: each of the four told apart.
func TestPartsByHand(t *testing.T) {
	expectParts(t, 0x12345678, 0x12, 0x34, 0x56, 0x78)
	expectParts(t, 0xff000000, 255, 0, 0, 0)
	expectParts(t, 0x00ff0000, 0, 255, 0, 0)
	expectParts(t, 0x0000ff00, 0, 0, 255, 0)
	expectParts(t, 0x000000ff, 0, 0, 0, 255)
	expectParts(t, 0xdeadbeef, 0xde, 0xad, 0xbe, 0xef)
	expectParts(t, 0x01020304, 1, 2, 3, 4)
	expectParts(t, 0, 0, 0, 0, 0)
	expectParts(t, 0xffffffff, 255, 255, 255, 255)
	expectParts(t, api.Black, 255, 0, 0, 0)
}

// P11.1: each number at each place, between other ones.
func TestEveryPart(t *testing.T) {
	for v := range 256 {
		n := uint8(v)
		expectParts(t, joined([4]int{v, 1, 2, 3}), n, 1, 2, 3)
		expectParts(t, joined([4]int{1, v, 2, 3}), 1, n, 2, 3)
		expectParts(t, joined([4]int{1, 2, v, 3}), 1, 2, n, 3)
		expectParts(t, joined([4]int{255, 254, 253, v}), 255, 254, 253, n)
	}
	for _, p := range slices.Concat(pixels, sample(1000)) {
		expectParts(t, p, uint8(part(p, 0)), uint8(part(p, 1)), uint8(part(p, 2)), uint8(part(p, 3)))
	}
}

// P11.1: sums, of pixels whose four differ, and round at 256 without a carry.
func TestAddByHand(t *testing.T) {
	cases := [][3]uint32{
		{0x01020304, 0x10203040, 0x11223344},
		{0xff0102ff, 0x02030401, 0x01040600},
		{0xff000000, 0x01000000, 0x00000000},
		{0x00ff0000, 0x00010000, 0x00000000},
		{0x0000ff00, 0x00000100, 0x00000000},
		{0x000000ff, 0x00000001, 0x00000000},
		{0x100000ff, 0x20000002, 0x30000001},
		{0x7f7f7f7f, 0x80808080, 0xffffffff},
		{0x80808080, 0x80808080, 0x00000000},
		{0xffffffff, 0xffffffff, 0xfefefefe},
		{0, 0, 0},
	}
	for _, c := range cases {
		expectTwo(t, "Add", pixel.Add, c[0], c[1], c[2])
		expectTwo(t, "Add", pixel.Add, c[1], c[0], c[2])
	}
}

// P11.1: differences, of pixels whose four differ, and round at 256 without a borrow.
func TestSubByHand(t *testing.T) {
	cases := [][3]uint32{
		{0x11223344, 0x01020304, 0x10203040},
		{0x00010203, 0x01000003, 0xff010200},
		{0x00000000, 0x01000000, 0xff000000},
		{0x00000000, 0x00010000, 0x00ff0000},
		{0x00000000, 0x00000100, 0x0000ff00},
		{0x00000000, 0x00000001, 0x000000ff},
		{0x30405000, 0x10102001, 0x203030ff},
		{0x00000000, 0xffffffff, 0x01010101},
		{0x7f7f7f7f, 0x80808080, 0xffffffff},
		{0xffffffff, 0xffffffff, 0x00000000},
		{0, 0, 0},
	}
	for _, c := range cases {
		expectTwo(t, "Sub", pixel.Sub, c[0], c[1], c[2])
	}
}

// P11.1: halves of sums, odd ones rounded down, and of sums that are no byte.
func TestAvgByHand(t *testing.T) {
	cases := [][3]uint32{
		{0x000000ff, 0x00000000, 0x0000007f}, // the chapter's example
		{0xff030201, 0xff040100, 0xff030100},
		{0x10203040, 0x30406080, 0x20304860},
		{0x01000000, 0x00000000, 0x00000000},
		{0x01010101, 0x00000000, 0x00000000},
		{0x01010101, 0x02020202, 0x01010101},
		{0x00010000, 0x00020000, 0x00010000},
		{0xffffffff, 0xffffffff, 0xffffffff},
		{0xffffffff, 0xfefefefe, 0xfefefefe},
		{0xff00ff00, 0x00ff00ff, 0x7f7f7f7f},
		{0x80808080, 0x80808080, 0x80808080},
		{0, 0, 0},
	}
	for _, c := range cases {
		expectTwo(t, "Avg", pixel.Avg, c[0], c[1], c[2])
		expectTwo(t, "Avg", pixel.Avg, c[1], c[0], c[2])
	}
}

// P11.1: Half, with differences below 0 that are odd, and cut at both ends.
func TestHalfByHand(t *testing.T) {
	cases := [][3]uint32{
		{0x10, 0x13, 0x0f},                   // 16 - 1
		{0x13, 0x10, 0x14},                   // 19 + 1
		{0x10, 0x11, 0x10},                   // a half of -1 is none
		{0x11, 0x10, 0x11},                   // nor is one of 1
		{0x05, 0x0a, 0x03},                   // 5 - 2
		{0x10000000, 0x11000000, 0x10000000}, // at each place
		{0x00100000, 0x00130000, 0x000f0000},
		{0x00001000, 0x00001500, 0x00000e00},
		{0x40506070, 0x20304050, 0x50607080},
		{0x20304050, 0x40506070, 0x10203040},
		{0x80908070, 0x80808080, 0x80988068},
		{0xff000000, 0x00ff0000, 0xff000000},
		{0xff, 0x00, 0xff}, {0xff, 0xfe, 0xff}, {0xff, 0xfd, 0xff},
		{0x00, 0xff, 0x00}, {0x00, 0x01, 0x00}, {0x00, 0x02, 0x00}, {0x01, 0x03, 0x00}, {0x01, 0x05, 0x00},
		{0xaa, 0x00, 0xff}, {0xa9, 0x00, 0xfd}, {0xab, 0x00, 0xff}, // 170 + 85 is the last that is not cut
		{0x55, 0xff, 0x00}, {0x56, 0xff, 0x02}, {0x54, 0xff, 0x00}, // 85 - 85
		{0x11, 0x34, 0x00}, {0x11, 0x33, 0x00}, {0x11, 0x32, 0x01},
		{0, 0, 0}, {0xffffffff, 0xffffffff, 0xffffffff}, {0xffffffff, 0, 0xffffffff}, {0, 0xffffffff, 0},
	}
	for _, c := range cases {
		expectTwo(t, "Half", pixel.Half, c[0], c[1], c[2])
	}
}

// P11.1: Full, cut at both ends, at one place and beside others that are not.
func TestFullByHand(t *testing.T) {
	cases := [][4]uint32{
		{0x10203040, 0x20406080, 0x08102030, 0x28507090},
		{0x10, 0xf8, 0x04, 0xff},
		{0x10, 0x20, 0x30, 0x00}, {0x10, 0x20, 0x2f, 0x01}, {0x10, 0x20, 0x31, 0x00},
		{0x80, 0x80, 0x01, 0xff}, {0x80, 0x80, 0x02, 0xfe}, {0x80, 0x80, 0x00, 0xff},
		{0x10000000, 0x20000000, 0x31000000, 0x00000000},
		{0xf0000000, 0x20000000, 0x01000000, 0xff000000},
		{0x11001122, 0x22003344, 0x00010000, 0x33004466},
		{0x11ff1122, 0x22ff3344, 0x00010000, 0x33ff4466},
		{0x1111ff22, 0x2233ff44, 0x00000100, 0x3344ff66},
		{0x11112200, 0x22334400, 0x000000ff, 0x33446600},
		{0xff00ff00, 0xff00ff00, 0x00ff00ff, 0xff00ff00},
		{0, 0, 0, 0}, {0, 0, 0xffffffff, 0}, {0xffffffff, 0xffffffff, 0, 0xffffffff}, {0xffffffff, 0xffffffff, 0xffffffff, 0xffffffff},
		{0x12345678, 0xdeadbeef, 0xdeadbeef, 0x12345678},
	}
	for _, c := range cases {
		expectThree(t, "Full", pixel.Full, c[0], c[1], c[2], c[3])
		expectThree(t, "Full", pixel.Full, c[1], c[0], c[2], c[3])
	}
}

// P11.1: Pick of ordinary pixels, with one place alone that decides, and with numbers between that are no bytes.
func TestPickByHand(t *testing.T) {
	cases := [][4]uint32{
		{0x10, 0x20, 0x1f, 0x10},                         // 17 is 1 from l, 15 from t
		{0x20, 0x10, 0x1f, 0x10},                         // 17 is 15 from l, 1 from t
		{0x10203040, 0x50607080, 0x4f5f6f7f, 0x10203040}, // each place is nearer to l
		{0x10203040, 0x50607080, 0x11213141, 0x50607080}, // each place is nearer to t
		{0x10223344, 0x20223344, 0x1f223344, 0x10223344}, // alpha alone
		{0x10223344, 0x20223344, 0x11223344, 0x20223344},
		{0x11203344, 0x11303344, 0x112f3344, 0x11203344}, // red alone
		{0x11203344, 0x11303344, 0x11213344, 0x11303344},
		{0x11222044, 0x11223044, 0x11222f44, 0x11222044}, // green alone
		{0x11222044, 0x11223044, 0x11222144, 0x11223044},
		{0x11223320, 0x11223330, 0x1122332f, 0x11223320}, // blue alone
		{0x11223320, 0x11223330, 0x11223321, 0x11223330},
		{200, 100, 0, 200}, {100, 200, 0, 200}, // 300
		{50, 100, 255, 50}, {100, 50, 255, 50}, // -105
		{0x0a0a0a00, 0x0b0b0b32, 0x0a0a0a32, 0x0a0a0a00}, // one place is 50 nearer to l, three are 1 nearer to t
		{0x0b0b0b32, 0x0a0a0a00, 0x0a0a0a32, 0x0a0a0a00},
		{0x80800000, 0x00000001, 0x00000000, 0x80800000}, // sums of 1 and 256
		{0x00000001, 0x80800000, 0x00000000, 0x80800000},
		{0xffffffff, 0x00000001, 0x00000000, 0xffffffff}, // of 1 and 1020
		{0x00000001, 0xffffffff, 0x00000000, 0xffffffff},
	}
	for _, c := range cases {
		expectThree(t, "Pick", pixel.Pick, c[0], c[1], c[2], c[3])
	}
}

// P11.1: where the two sums are the same it is t, and by one more or less at one place it is not.
func TestPickOfSameSums(t *testing.T) {
	same := [][3]uint32{
		{0x10, 0x20, 0x18}, {0x20, 0x10, 0x18},
		{0x00000100, 0x00000001, 0}, {0x00000001, 0x00000100, 0},
		{0x03000001, 0x00020200, 0}, {0x00020200, 0x03000001, 0},
		{0x01010101, 0x04000000, 0}, {0x04000000, 0x01010101, 0},
		{0xff000000, 0x00ff0000, 0}, {0x00ffff00, 0xff0000ff, 0xffffffff},
		{0x10, 0x20, 0x1018}, {0x20, 0x10, 0x1018}, {0, 0, 0}, {0x12345678, 0x12345678, 0xdeadbeef},
	}
	for _, c := range same {
		expectThree(t, "Pick", pixel.Pick, c[0], c[1], c[2], c[1])
	}
	expectThree(t, "Pick", pixel.Pick, 0x03000001, 0x00020100, 0, 0x03000001) // 3 from l, 4 from t
	expectThree(t, "Pick", pixel.Pick, 0x03000001, 0x00020300, 0, 0x00020300) // 5 and 4
	expectThree(t, "Pick", pixel.Pick, 0x03000002, 0x00020200, 0, 0x03000002) // 4 and 5
	expectThree(t, "Pick", pixel.Pick, 0x02000001, 0x00020200, 0, 0x00020200) // 4 and 3
	expectThree(t, "Pick", pixel.Pick, 0x04010101, 0x04010104, 0x04010102, 0x04010104)
	expectThree(t, "Pick", pixel.Pick, 0x04010101, 0x04010104, 0x04010103, 0x04010101)
}

// P11.1: every two numbers at each place.
func TestEveryTwo(t *testing.T) {
	everyTwo(t, "Add", pixel.Add, addRule)
	everyTwo(t, "Sub", pixel.Sub, subRule)
	everyTwo(t, "Avg", pixel.Avg, avgRule)
	everyTwo(t, "Half", pixel.Half, halfRule)
}

// P11.1: each of the four by itself.
func TestNeighboursAreLeftAlone(t *testing.T) {
	alone(t, "Add", pixel.Add, addRule)
	alone(t, "Sub", pixel.Sub, subRule)
	alone(t, "Avg", pixel.Avg, avgRule)
	alone(t, "Half", pixel.Half, halfRule)
}

// P11.1: what is added can be taken away.
func TestAddAndSub(t *testing.T) {
	for _, p := range slices.Concat(pixels, sample(200)) {
		for _, q := range slices.Concat(pixels, sample(200)) {
			expectTwo(t, "Sub", pixel.Sub, pixel.Add(p, q), q, p)
			expectTwo(t, "Add", pixel.Add, pixel.Sub(p, q), q, p)
		}
	}
}

// P11.1: Full of every three numbers, at each place.
func TestEveryFull(t *testing.T) {
	for l := range 256 {
		for top := range 256 {
			// Four of the third number at a time: in 64 steps each place has been given all of them.
			for step := range 64 {
				var ls, ts, tls, want [4]int
				for turn := range 4 {
					for place := range want {
						tl := step + 64*((place+turn)%4)
						ls[place], ts[place], tls[place], want[place] = l, top, tl, fullRule(l, top, tl)
					}
					if got := pixel.Full(joined(ls), joined(ts), joined(tls)); got != joined(want) {
						t.Fatalf("Full(%d, %d, %d) = %08x; want %d", l, top, tls, got, want)
					}
				}
			}
		}
	}
}

// P11.1: Full and Pick of pixels of all kinds, against the chapter's words.
func TestThreeOfAllKinds(t *testing.T) {
	list := slices.Concat(pixels, sample(60))
	for _, l := range list {
		for _, top := range list {
			for _, tl := range list {
				expectThree(t, "Full", pixel.Full, l, top, tl, by(l, top, tl, fullRule))
				expectThree(t, "Pick", pixel.Pick, l, top, tl, wantPick(l, top, tl))
			}
		}
	}
}

// P11.1: Pick of pixels that lie near each other, so that sums are often the same.
func TestPickOfSmallNumbers(t *testing.T) {
	small := func(n int) uint32 {
		return joined([4]int{n % 3, n / 3 % 3, n / 9 % 3, n / 27 % 3})
	}
	for l := range 81 {
		for top := range 81 {
			for tl := range 81 {
				expectThree(t, "Pick", pixel.Pick, small(l), small(top), small(tl), wantPick(small(l), small(top), small(tl)))
			}
		}
	}
}

// P11.1: images that are good, with their neighbours of one pixel fewer and one more.
func TestGood(t *testing.T) {
	room := make([]uint32, 1<<16)
	sides := [][2]int{{1, 1}, {1, 2}, {2, 1}, {3, 5}, {5, 3}, {16, 16}, {255, 257}, {256, 255},
		{1, api.MaxSide - 1}, {api.MaxSide - 1, 1}, {1, api.MaxSide}, {api.MaxSide, 1}, {3, api.MaxSide}, {api.MaxSide, 3}}
	for _, s := range sides {
		n := s[0] * s[1]
		expectGood(t, s[0], s[1], room[:n], true)
		expectGood(t, s[0], s[1], room[:n:n], true)
		expectGood(t, s[0], s[1], slices.Repeat([]uint32{0xdeadbeef}, n), true)
		expectGood(t, s[0], s[1], room[:n-1], false)
		expectGood(t, s[0], s[1], room[:n+1], false)
		expectGood(t, s[0], s[1], room[:n/2], false)
		expectGood(t, s[0], s[1], room, false)
		expectGood(t, s[0], s[1], nil, false)
		expectGood(t, s[0], s[1], []uint32{}, false)
	}
}

// P11.1: the largest image. Its pixels are never touched, so they take no memory.
func TestGoodOfTheLargest(t *testing.T) {
	room := make([]uint32, api.MaxCells+1)
	expectGood(t, api.MaxSide, api.MaxSide, room[:api.MaxCells], true)
	expectGood(t, api.MaxSide, api.MaxSide, room[:api.MaxCells-1], false)
	expectGood(t, api.MaxSide, api.MaxSide, room, false)
	expectGood(t, 2*api.MaxSide, api.MaxSide/2, room[:api.MaxCells], false)
	expectGood(t, api.MaxSide/2, 2*api.MaxSide, room[:api.MaxCells], false)
}

// P11.1: sides below 1 and above MaxSide, with as many pixels as they would have, and with none.
func TestGoodOfWrongSides(t *testing.T) {
	room := make([]uint32, 1<<17)
	sides := [][2]int{{0, 0}, {0, 1}, {1, 0}, {0, api.MaxSide}, {api.MaxSide, 0}, {-1, -1}, {-1, 1}, {1, -1}, {-2, -3}, {-16, -16}, {-1, -api.MaxSide},
		{1, api.MaxSide + 1}, {api.MaxSide + 1, 1}, {2, api.MaxSide + 1}, {api.MaxSide + 1, 2}, {2 * api.MaxSide, 1}, {1, 2 * api.MaxSide}, {1 << 16, 1}, {1, 1<<16 + 2}, {api.MaxSide + 1, 0}}
	for _, s := range sides {
		if n := s[0] * s[1]; n >= 0 {
			expectGood(t, s[0], s[1], room[:n], false)
		}
		expectGood(t, s[0], s[1], nil, false)
		expectGood(t, s[0], s[1], []uint32{}, false)
		expectGood(t, s[0], s[1], room[:1], false)
		expectGood(t, s[0], s[1], room, false)
	}
	if pixel.Good(api.Image{}) {
		t.Error("Good of the zero Image")
	}
}

// P11.1: sides whose product runs over, or would be another one if it, or they, were cut off.
func TestGoodOfProductsThatRunOver(t *testing.T) {
	room := make([]uint32, 1<<16)
	cases := []struct{ w, h, n int }{
		{math.MaxInt, math.MaxInt, 1}, {math.MinInt, math.MinInt, 0}, {math.MinInt, 2, 0}, {2, math.MinInt, 0}, {math.MinInt, 1, 0}, {math.MinInt, math.MaxInt, 0},
		{1 << 32, 1 << 32, 0}, {1 << 31, 1 << 33, 0}, {1 << 62, 4, 0}, {4, 1 << 62, 0}, {1 << 60, 16, 0}, {1 << 50, api.MaxSide, 0}, {api.MaxSide, 1 << 50, 0},
		{1<<62 + 1, 4, 4}, {4, 1<<62 + 1, 4}, {1<<50 + 1, api.MaxSide, api.MaxSide}, {api.MaxSide, 1<<50 + 1, api.MaxSide},
		{1<<32 + 1, 1 - 1<<32, 1}, {1<<32 + 2, 1, 2}, {1, 1<<32 + 2, 2}, {1<<32 + 3, 5, 15}, {5, 1<<32 + 3, 15}, {2 - 1<<32, 3, 6}, {3, 2 - 1<<32, 6},
		{1 << 16, 1 << 16, 0}, {1<<16 + 2, 1, 2}, {3, 1<<16 + 2, 6}, {2 - 1<<16, 3, 6}, {256 + 2, 1, 2}, {math.MaxInt, 1, 0}, {1, math.MaxInt, 0}, {-1, math.MinInt, 0},
	}
	for _, c := range cases {
		expectGood(t, c.w, c.h, room[:c.n], false)
		expectGood(t, c.w, c.h, nil, false)
		expectGood(t, c.w, c.h, room[:1], false)
	}
}

// R4: an image that is asked of is not changed, spare room included.
func TestGoodChangesNothing(t *testing.T) {
	pix := sample(20)
	m := api.Image{W: 3, H: 4, Pix: pix[2:14]}
	if !pixel.Good(m) || m.W != 3 || m.H != 4 || len(m.Pix) != 12 || !slices.Equal(pix, sample(20)) {
		t.Errorf("%v, %08x", m, pix)
	}
}

// R5: what was asked ahead of a call changes nothing.
func TestAskedAgain(t *testing.T) {
	for range 3 {
		expectParts(t, 0x12345678, 0x12, 0x34, 0x56, 0x78)
		expectTwo(t, "Add", pixel.Add, 0xff0102ff, 0x02030401, 0x01040600)
		expectTwo(t, "Sub", pixel.Sub, 0x00010203, 0x01000003, 0xff010200)
		expectTwo(t, "Avg", pixel.Avg, 0xff, 0, 0x7f)
		expectTwo(t, "Half", pixel.Half, 0x10, 0x13, 0x0f)
		expectThree(t, "Full", pixel.Full, 0x10, 0xf8, 0x04, 0xff)
		expectThree(t, "Pick", pixel.Pick, 0x10, 0x20, 0x1f, 0x10)
		expectGood(t, 1, 2, make([]uint32, 2), true)
		expectGood(t, 2, 2, make([]uint32, 2), false)
	}
}
