package near_test

import (
	"math"
	"strconv"
	"strings"
	"testing"

	"marquetry/api"
	"marquetry/near"
)

const (
	nearCodes = 120
	mostCode  = 1 << 20
)

// The chapter's list, as it stands there.
const chapter = `
0 1  1 0  1 1  -1 1  0 2  2 0  1 2  -1 2  2 1  -2 1  2 2  -2 2  0 3  3 0  1 3  -1 3  3 1  -3 1  2 3  -2 3
3 2  -3 2  0 4  4 0  1 4  -1 4  4 1  -4 1  3 3  -3 3  2 4  -2 4  4 2  -4 2  0 5  3 4  -3 4  4 3  -4 3  5 0
1 5  -1 5  5 1  -5 1  2 5  -2 5  5 2  -5 2  4 4  -4 4  3 5  -3 5  5 3  -5 3  0 6  6 0  1 6  -1 6  6 1  -6 1
2 6  -2 6  6 2  -6 2  4 5  -4 5  5 4  -5 4  3 6  -3 6  6 3  -6 3  0 7  7 0  1 7  -1 7  5 5  -5 5  7 1  -7 1
4 6  -4 6  6 4  -6 4  2 7  -2 7  7 2  -7 2  3 7  -3 7  7 3  -7 3  5 6  -5 6  6 5  -6 5  8 0  4 7  -4 7  7 4
-7 4  8 1  8 2  6 6  -6 6  8 3  5 7  -5 7  7 5  -7 5  8 4  6 7  -6 7  7 6  -7 6  8 5  7 7  -7 7  8 6  8 7
`

// Widths of narrow, ordinary and wide pictures.
var widths = []int{1, 2, 3, 4, 5, 6, 7, 8, 9, 10, 11, 12, 13, 14, 15, 16, 17, 31, 32, 33, 100, 119, 120, 121, 640, 1000, 4095, 4096, 8191, 16383, api.MaxSide}

// Widths of none; some would be one, if they were cut off.
var wrongWidths = []int{math.MinInt, math.MinInt + 1, math.MinInt + 10, math.MinInt32, -1 << 32, 10 - 1<<32, -65535, -api.MaxSide - 1, -api.MaxSide, -10, -1, 0,
	api.MaxSide + 1, api.MaxSide + 2, 2 * api.MaxSide, 1 << 16, 1<<16 + 10, 1 << 31, 1 << 32, 1<<32 + 1, 1<<32 + 10, math.MaxInt - 1, math.MaxInt}

// Codes below 1 and above 2^20, which no call takes.
var wrongCodes = []int{math.MinInt, math.MinInt + 1, math.MinInt + 120, math.MinInt32, -1 << 32, 1 - 1<<32, 121 - 1<<32, -mostCode, -256, -121, -120, -119, -2, -1, 0,
	mostCode + 1, mostCode + 2, mostCode + 120, mostCode + 121, 2 * mostCode, 1 << 31, 1 << 32, 1<<32 + 1, 1<<32 + 120, 1<<32 + 121, math.MaxInt - 119, math.MaxInt}

// Distances below 1 and above MaxFar.
var wrongDists = []int{math.MinInt, math.MinInt + 1, math.MinInt32, -1 << 32, 1 - 1<<32, -api.MaxFar, -121, -120, -119, -10, -2, -1, 0,
	api.MaxFar + 1, api.MaxFar + 2, api.MaxFar + 119, api.MaxFar + 120, api.MaxFar + 121, 2 * mostCode, 1 << 31, 1 << 32, 1<<32 + 1, 1<<32 + 9, math.MaxInt - 120, math.MaxInt - 119, math.MaxInt}

// listed answers the chapter's points, that of code 1 first.
func listed(t *testing.T) [][2]int {
	t.Helper()
	words := strings.Fields(chapter)
	if len(words) != 2*nearCodes {
		t.Fatalf("%d numbers", len(words))
	}
	points := make([][2]int, nearCodes)
	for i, word := range words {
		n, err := strconv.Atoi(word)
		if err != nil {
			t.Fatal(err)
		}
		points[i/2][i%2] = n
	}
	return points
}

// wantDist answers, by the chapter's words, the distance of a code that may be.
func wantDist(points [][2]int, code, width int) int {
	if code > nearCodes {
		return code - 120
	}
	p := points[code-1]
	if d := p[0] + p[1]*width; d >= 1 {
		return d
	}
	return 1
}

// leastCodes answers the least near code of each distance that has one.
func leastCodes(points [][2]int, width int) map[int]int {
	least := map[int]int{}
	for code := nearCodes; code >= 1; code-- {
		least[wantDist(points, code, width)] = code
	}
	return least
}

func expectPoint(t *testing.T, code, dx, dy int, ok bool) {
	t.Helper()
	if x, y, is := near.Point(code); x != dx || y != dy || is != ok {
		t.Errorf("Point(%d) = %d, %d, %v; want %d, %d, %v", code, x, y, is, dx, dy, ok)
	}
}

func expectDist(t *testing.T, code, width, want int) {
	t.Helper()
	if d := near.Dist(code, width); d != want {
		t.Errorf("Dist(%d, %d) = %d; want %d", code, width, d, want)
	}
}

func expectCode(t *testing.T, dist, width, want int) {
	t.Helper()
	if c := near.Code(dist, width); c != want {
		t.Errorf("Code(%d, %d) = %d; want %d", dist, width, c, want)
	}
}

// P9.1: the chapter's example.
func TestExample(t *testing.T) {
	expectDist(t, 1, 10, 10)
	expectCode(t, 1, 10, 2)
}

// P9.1: each point of the chapter's list.
func TestEveryPoint(t *testing.T) {
	for i, p := range listed(t) {
		expectPoint(t, i+1, p[0], p[1], true)
	}
}

// P9.1: points told by hand, the first and the last one with them.
func TestPointsByHand(t *testing.T) {
	expectPoint(t, 1, 0, 1, true)
	expectPoint(t, 2, 1, 0, true)
	expectPoint(t, 4, -1, 1, true)
	expectPoint(t, 40, 5, 0, true)
	expectPoint(t, 60, -6, 1, true)
	expectPoint(t, 100, 7, 4, true)
	expectPoint(t, 101, -7, 4, true)
	expectPoint(t, 119, 8, 6, true)
	expectPoint(t, 120, 8, 7, true)
}

// P9.1: the points are each once all those of seven rows above, seven to both sides, with eight to the left; never farther off than a later one.
func TestPointsFillThePlane(t *testing.T) {
	seen := map[[2]int]bool{}
	last := 0
	for code := 1; code <= nearCodes; code++ {
		dx, dy, ok := near.Point(code)
		left := dy == 0 && dx >= 1 && dx <= 8
		above := dy >= 1 && dy <= 7 && dx >= -7 && dx <= 8
		if !ok || !left && !above || seen[[2]int{dx, dy}] {
			t.Errorf("Point(%d) = %d, %d, %v", code, dx, dy, ok)
		}
		seen[[2]int{dx, dy}] = true
		if far := dx*dx + dy*dy; far < last {
			t.Errorf("Point(%d) = %d, %d is nearer than the one ahead of it", code, dx, dy)
		} else {
			last = far
		}
	}
	if len(seen) != nearCodes {
		t.Errorf("%d points", len(seen))
	}
}

// P9.1: codes below 1 and above 120 have no point.
func TestPointOfWrongCodes(t *testing.T) {
	for _, code := range wrongCodes {
		expectPoint(t, code, 0, 0, false)
	}
	for code := -1000; code < 1; code++ {
		expectPoint(t, code, 0, 0, false)
	}
	for code := 121; code < 1000; code++ {
		expectPoint(t, code, 0, 0, false)
	}
	for _, code := range []int{1<<16 + 1, 1<<16 + 120, mostCode - 1, mostCode} {
		expectPoint(t, code, 0, 0, false)
	}
}

// P9.1: distances told by hand.
func TestDistsByHand(t *testing.T) {
	cases := []struct{ code, width, dist int }{
		{1, 1, 1}, {1, 10, 10}, {1, 640, 640}, {1, 16384, 16384},
		{2, 1, 1}, {2, 10, 1}, {2, 16384, 1},
		{3, 1, 2}, {3, 10, 11}, {3, 16384, 16385},
		{4, 10, 9}, {4, 640, 639}, {4, 16384, 16383},
		{6, 7, 2}, {10, 10, 8}, {12, 100, 198}, {40, 3, 5}, {60, 10, 4}, {101, 10, 33}, {101, 640, 2553},
		{120, 1, 15}, {120, 10, 78}, {120, 640, 4488}, {120, 16384, 114696},
		{121, 1, 1}, {121, 10, 1}, {121, 16384, 1}, {122, 10, 2}, {200, 10, 80}, {1000, 7, 880}, {100000, 16384, 99880},
		{1<<20 - 1, 10, 1048455}, {1 << 20, 1, 1048456}, {1 << 20, 10, 1048456}, {1 << 20, 16384, 1048456},
	}
	for _, c := range cases {
		expectDist(t, c.code, c.width, c.dist)
	}
	expectDist(t, mostCode, 10, api.MaxFar)
}

// P9.1: points that would lie at the pixel itself, or behind it, and the narrowest rows that are not too narrow for them.
func TestDistBelowOne(t *testing.T) {
	cases := []struct{ code, width, dist int }{
		{4, 1, 1}, {4, 2, 1}, {4, 3, 2}, // -1 1
		{10, 1, 1}, {10, 2, 1}, {10, 3, 1}, {10, 4, 2}, // -2 1
		{8, 1, 1}, {8, 2, 3}, // -1 2
		{12, 1, 1}, {12, 2, 2}, // -2 2
		{60, 1, 1}, {60, 5, 1}, {60, 6, 1}, {60, 7, 1}, {60, 8, 2}, // -6 1
		{80, 1, 1}, {80, 7, 1}, {80, 8, 1}, {80, 9, 2}, // -7 1
		{101, 1, 1}, {101, 2, 1}, {101, 3, 5}, // -7 4
		{118, 1, 1}, {118, 2, 7}, {117, 1, 14}, // -7 7, 7 7
	}
	for _, c := range cases {
		expectDist(t, c.code, c.width, c.dist)
	}
}

// P9.1: each near code in each width.
func TestEveryNearDist(t *testing.T) {
	points := listed(t)
	for width := 1; width <= api.MaxSide; width++ {
		for code := 1; code <= nearCodes; code++ {
			expectDist(t, code, width, wantDist(points, code, width))
		}
		if t.Failed() {
			return
		}
	}
}

// P9.1: each code above 120, whatever the width.
func TestEveryFarDist(t *testing.T) {
	for _, width := range []int{1, 10, 121, api.MaxSide} {
		for code := nearCodes + 1; code <= mostCode; code++ {
			expectDist(t, code, width, code-120)
			if t.Failed() {
				return
			}
		}
	}
}

// P9.1: codes below 1 and above 2^20.
func TestDistOfWrongCodes(t *testing.T) {
	for _, width := range widths {
		for _, code := range wrongCodes {
			expectDist(t, code, width, 0)
		}
		for by := range 300 {
			expectDist(t, -by, width, 0)
			expectDist(t, mostCode+1+by, width, 0)
		}
	}
}

// P9.1: widths below 1 and above MaxSide, also of codes that hang on none.
func TestWrongWidths(t *testing.T) {
	check := func(width int) {
		for _, code := range []int{-1, 0, 1, 2, 4, 119, 120, 121, 122, 1000, mostCode - 1, mostCode, mostCode + 1} {
			expectDist(t, code, width, 0)
		}
		for _, dist := range []int{-1, 0, 1, 2, 9, 10, 120, 121, 16384, 16385, 114696, api.MaxFar - 1, api.MaxFar, api.MaxFar + 1} {
			expectCode(t, dist, width, 0)
		}
	}
	for _, width := range wrongWidths {
		check(width)
	}
	for by := range 300 {
		check(-by)
		check(api.MaxSide + 1 + by)
	}
}

// P9.1: codes told by hand; of several that have a distance it is the least.
func TestCodesByHand(t *testing.T) {
	cases := []struct{ dist, width, code int }{
		{1, 1, 1}, // also 2, 4 and more, and 121
		{2, 1, 3}, // also 5 and 6
		{3, 1, 7}, {4, 1, 11}, {15, 1, 120}, {16, 1, 136},
		{1, 2, 2}, // also 4
		{2, 2, 1}, {3, 2, 3}, {4, 2, 5},
		{1, 10, 2}, {9, 10, 4}, {10, 10, 1}, {11, 10, 3}, {8, 10, 10}, {20, 10, 5},
		{5, 10, 40}, // 5 0; also 44, -5 1
		{78, 10, 120}, {79, 10, 199}, {80, 10, 200}, {77, 10, 117},
		{8, 640, 97}, {9, 640, 129}, {631, 640, 751}, {633, 640, 80}, {648, 640, 102}, {649, 640, 769},
		{1, 16384, 2}, {16384, 16384, 1}, {114696, 16384, 120}, {114697, 16384, 114817},
		{api.MaxFar, 1, mostCode}, {api.MaxFar, 10, mostCode}, {api.MaxFar, 16384, mostCode}, {api.MaxFar - 1, 16384, mostCode - 1},
	}
	for _, c := range cases {
		expectCode(t, c.dist, c.width, c.code)
	}
}

// P9.1: in each width, the distances of the near codes, and those beside them.
func TestCodeInEveryWidth(t *testing.T) {
	points := listed(t)
	for width := 1; width <= api.MaxSide; width++ {
		least := leastCodes(points, width)
		for dist, code := range least {
			expectCode(t, dist, width, code)
			if least[dist+1] == 0 {
				expectCode(t, dist+1, width, dist+1+120)
			}
		}
		if t.Failed() {
			return
		}
	}
}

// P9.1: every distance, in pictures of several widths.
func TestEveryCode(t *testing.T) {
	points := listed(t)
	for _, width := range []int{1, 10, 640, api.MaxSide} {
		least := leastCodes(points, width)
		for dist := 1; dist <= api.MaxFar; dist++ {
			want := least[dist]
			if want == 0 {
				want = dist + 120
			}
			expectCode(t, dist, width, want)
			if t.Failed() {
				return
			}
		}
	}
}

// P9.1, by its words: a code's distance is that again, and no lesser code's is.
func TestCodeIsTheLeast(t *testing.T) {
	for _, width := range widths {
		far := 8 + 7*width
		for _, dist := range []int{1, 2, 3, 7, 8, 9, 15, 16, 119, 120, 121, width, 2*width - 1, 3*width + 2, 5*width + 9, far - 1, far, far + 1, far + 120, 50000} {
			code := near.Code(dist, width)
			if near.Dist(code, width) != dist {
				t.Errorf("Code(%d, %d) = %d, whose distance is %d", dist, width, code, near.Dist(code, width))
			}
			for lesser := 1; lesser < code; lesser++ {
				if near.Dist(lesser, width) == dist {
					t.Errorf("Code(%d, %d) = %d; %d is less", dist, width, code, lesser)
					break
				}
			}
		}
	}
}

// P9.1: distances below 1 and above MaxFar.
func TestCodeOfWrongDists(t *testing.T) {
	for _, width := range widths {
		for _, dist := range wrongDists {
			expectCode(t, dist, width, 0)
		}
		for by := range 300 {
			expectCode(t, -by, width, 0)
			expectCode(t, api.MaxFar+1+by, width, 0)
		}
	}
}

// R5: what was asked ahead of a call changes nothing.
func TestAskedAgain(t *testing.T) {
	for range 3 {
		expectPoint(t, 4, -1, 1, true)
		expectPoint(t, 121, 0, 0, false)
		expectDist(t, 4, 10, 9)
		expectDist(t, 4, 1, 1)
		expectDist(t, 4, 0, 0)
		expectCode(t, 9, 10, 4)
		expectCode(t, 9, 1, 65)
		expectCode(t, 0, 10, 0)
	}
}
