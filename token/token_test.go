package token_test

import (
	"fmt"
	"math"
	"slices"
	"testing"

	"marquetry/api"
	"marquetry/token"
)

// Bits of no cache; some would be those of one, if they were cut off.
var wrongCaches = []int{math.MinInt, math.MinInt + 4, -1 << 32, 4 - 1<<32, -256, 4 - 256, -12, -11, -2, -1, 12, 13, 16, 31, 32, 64, 255, 256, 260, 1<<16 + 4, 1 << 31, 1 << 32, 1<<32 + 11, math.MaxInt - 1, math.MaxInt}

// Numbers of pixels of no copy.
var wrongLens = []int{math.MinInt, math.MinInt + 1, -1 << 32, 1 - 1<<32, -4097, -4096, -4095, -2, -1, 0, 4097, 4098, 8192, 65537, 1 << 31, 1 << 32, 1<<32 + 1, math.MaxInt - 1, math.MaxInt}

func literal(argb uint32) api.Token { return api.Token{Kind: api.Literal, Argb: argb} }

func copied(n, dist int) api.Token { return api.Token{Kind: api.Copy, Len: n, Dist: dist} }

func known(index int) api.Token { return api.Token{Kind: api.Known, Index: index} }

// sample answers n pixels of so many colours, by a fixed rule.
func sample(n, colors int) []uint32 {
	list := make([]uint32, n)
	x := uint32(1717)
	for i := range list {
		x = x*1664525 + 1013904223
		list[i] = x >> 13 % uint32(colors) * 0x01020305
	}
	return list
}

// rising answers n pixels, each another one.
func rising(n int) []uint32 {
	list := make([]uint32, n)
	for i := range list {
		list[i] = uint32(i)
	}
	return list
}

// slot answers the place of a colour by chapter 10's words.
func slot(argb uint32, bits int) int {
	return int(uint64(argb) * 0x1e35a7bd % (1 << 32) / (1 << (32 - bits)))
}

// stands answers what stands at a place of the cache behind these pixels: the last one whose place it is.
func stands(pix []uint32, index, bits int) uint32 {
	for _, p := range slices.Backward(pix) {
		if slot(p, bits) == index {
			return p
		}
	}
	return 0
}

// wantExpand answers the pixels by the chapter's words; false, if there is a wrong step, or more than n are told, or fewer.
func wantExpand(list []api.Token, n, bits int) ([]uint32, bool) {
	pix := []uint32{}
	for _, s := range list {
		switch {
		case s.Kind == 1:
			pix = append(pix, s.Argb)
		case s.Kind == 2 && s.Len >= 1 && s.Len <= 4096 && s.Dist >= 1 && s.Dist <= len(pix):
			// Of one that lies in itself the pixels come again and again.
			from := pix[len(pix)-s.Dist:]
			for i := range s.Len {
				pix = append(pix, from[i%s.Dist])
			}
		case s.Kind == 3 && bits > 0 && s.Index >= 0 && s.Index < 1<<bits:
			pix = append(pix, stands(pix, s.Index, bits))
		default:
			return nil, false
		}
		if len(pix) > n {
			return nil, false
		}
	}
	return pix, len(pix) == n
}

// wantFits answers by the chapter's words, of numbers that are not at their ends.
func wantFits(pix []uint32, spans []api.Span) bool {
	end := 0
	for _, s := range spans {
		if s.At < end || s.Len < 1 || s.Len > 4096 || s.Dist < 1 || s.Dist > s.At || s.Dist > 1048456 || s.At+s.Len > len(pix) {
			return false
		}
		for i := s.At; i < s.At+s.Len; i++ {
			if pix[i] != pix[i-s.Dist] {
				return false
			}
		}
		end = s.At + s.Len
	}
	return true
}

// wantCover answers the steps by the chapter's words, of spans that fit.
func wantCover(pix []uint32, bits int, spans []api.Span) []api.Token {
	list := []api.Token{}
	for at := 0; at < len(pix); {
		p := pix[at]
		switch {
		case len(spans) > 0 && spans[0].At == at:
			list = append(list, copied(spans[0].Len, spans[0].Dist))
			at += spans[0].Len
			spans = spans[1:]
			continue
		case bits > 0 && stands(pix[:at], slot(p, bits), bits) == p:
			list = append(list, known(slot(p, bits)))
		default:
			list = append(list, literal(p))
		}
		at++
	}
	return list
}

// short tells a list, but not the whole of a long one.
func short[T any](list []T) string {
	if len(list) > 12 {
		return fmt.Sprintf("%v .. (%d)", list[:12], len(list))
	}
	return fmt.Sprintf("%v", list)
}

func expectExpand(t *testing.T, list []api.Token, n, bits int, want []uint32) {
	t.Helper()
	if got, e := token.Expand(list, n, bits); e != api.OK || !slices.Equal(got, want) {
		t.Errorf("Expand(%s, %d, %d) = %s, %d; want %s", short(list), n, bits, short(got), e, short(want))
	}
}

func refuseExpand(t *testing.T, list []api.Token, n, bits int, want api.Errno) {
	t.Helper()
	if got, e := token.Expand(list, n, bits); e != want || len(got) != 0 {
		t.Errorf("Expand(%s, %d, %d) = %s, %d; want error %d", short(list), n, bits, short(got), e, want)
	}
}

func expectCover(t *testing.T, pix []uint32, bits int, spans []api.Span, want []api.Token) {
	t.Helper()
	if got, e := token.Cover(pix, bits, spans); e != api.OK || !slices.Equal(got, want) {
		t.Errorf("Cover(%s, %d, %s) = %s, %d; want %s", short(pix), bits, short(spans), short(got), e, short(want))
	}
}

func refuseCover(t *testing.T, pix []uint32, bits int, spans []api.Span) {
	t.Helper()
	if got, e := token.Cover(pix, bits, spans); e != api.ErrArg || len(got) != 0 {
		t.Errorf("Cover(%s, %d, %s) = %s, %d; want error %d", short(pix), bits, short(spans), short(got), e, api.ErrArg)
	}
}

// expectFit holds that the spans fit, and that they cover the pixels with each of these caches, as which Expand tells them again.
func expectFit(t *testing.T, pix []uint32, spans []api.Span, caches ...int) {
	t.Helper()
	if !token.Fits(pix, spans) {
		t.Errorf("Fits(%s, %s) = false", short(pix), short(spans))
	}
	for _, bits := range caches {
		list, e := token.Cover(pix, bits, spans)
		if e != api.OK {
			t.Errorf("Cover(%s, %d, %s): error %d", short(pix), bits, short(spans), e)
		}
		expectExpand(t, list, len(pix), bits, pix)
	}
}

// refuseFit holds that the spans do not fit, and that nothing is covered by them.
func refuseFit(t *testing.T, what string, pix []uint32, spans ...api.Span) {
	t.Helper()
	if token.Fits(pix, spans) {
		t.Errorf("%s: Fits(%s, %s) = true", what, short(pix), short(spans))
	}
	for _, bits := range []int{0, 1, 11} {
		refuseCover(t, pix, bits, spans)
	}
}

// P17.1: steps and what they tell, by hand.
func TestExpandByHand(t *testing.T) {
	for _, c := range []struct {
		what string
		bits int
		list []api.Token
		want []uint32
	}{
		{"a Literal", 0, []api.Token{literal(7)}, []uint32{7}},
		{"Literals", 0, []api.Token{literal(7), literal(0), literal(0xffffffff), literal(7)}, []uint32{7, 0, 0xffffffff, 7}},
		{"Literals beside a cache", 4, []api.Token{literal(7), literal(7), literal(8)}, []uint32{7, 7, 8}},
		{"a Copy of one", 0, []api.Token{literal(7), copied(1, 1)}, []uint32{7, 7}},
		{"the farther one", 0, []api.Token{literal(7), literal(8), copied(1, 2)}, []uint32{7, 8, 7}},
		{"the one between", 0, []api.Token{literal(7), literal(8), literal(9), copied(1, 2)}, []uint32{7, 8, 9, 8}},
		{"all there are", 0, []api.Token{literal(7), literal(8), literal(9), copied(3, 3)}, []uint32{7, 8, 9, 7, 8, 9}},
		{"in itself, by one", 0, []api.Token{literal(7), copied(4, 1)}, []uint32{7, 7, 7, 7, 7}},
		{"in itself, by two", 0, []api.Token{literal(7), literal(8), copied(5, 2)}, []uint32{7, 8, 7, 8, 7, 8, 7}},
		{"in itself, of some", 0, []api.Token{literal(6), literal(7), literal(8), copied(3, 2)}, []uint32{6, 7, 8, 7, 8, 7}},
		{"a Copy of a Copy", 0, []api.Token{literal(7), copied(2, 1), literal(8), copied(3, 2), copied(7, 7)}, []uint32{7, 7, 7, 8, 7, 8, 7, 7, 7, 7, 8, 7, 8, 7}},
		{"the chapter's example", 0, []api.Token{literal(5), copied(2, 1)}, []uint32{5, 5, 5}},
		{"what stands there", 4, []api.Token{literal(5), known(9)}, []uint32{5, 5}},
		{"what stood there longer", 4, []api.Token{literal(5), literal(8), literal(9), known(9), known(15), known(0)}, []uint32{5, 8, 9, 5, 8, 9}},
		{"of a new cache", 4, []api.Token{known(9), known(15)}, []uint32{0, 0}},
		{"a place that is taken", 4, []api.Token{literal(0xff000000), literal(0xdeadbeef), known(4)}, []uint32{0xff000000, 0xdeadbeef, 0xdeadbeef}},
		{"a Copy takes it again", 4, []api.Token{literal(0xff000000), literal(0xdeadbeef), copied(1, 2), known(4)}, []uint32{0xff000000, 0xdeadbeef, 0xff000000, 0xff000000}},
		{"the last one of a Copy", 1, []api.Token{literal(1), literal(9), literal(5), copied(2, 3), known(0), known(1)}, []uint32{1, 9, 5, 1, 9, 9, 5}},
		// 0 stands in a place that is not its own, and comes into its own as it is told.
		{"a Known takes a place", 1, []api.Token{literal(1), known(1), known(0)}, []uint32{1, 0, 0}},
		{"the last place of the greatest", 11, []api.Token{known(2047), literal(0xffffffff), known(1806), known(2047)}, []uint32{0, 0xffffffff, 0xffffffff, 0}},
	} {
		if got, e := token.Expand(c.list, len(c.want), c.bits); e != api.OK || !slices.Equal(got, c.want) {
			t.Errorf("%s: Expand = %x, %d; want %x", c.what, got, e, c.want)
		}
	}
}

// P17.1: no steps: of n 0 no pixels, of others, MaxCells too, too few.
func TestExpandOfNothing(t *testing.T) {
	for bits := range api.MaxCache + 1 {
		for _, list := range [][]api.Token{nil, {}} {
			expectExpand(t, list, 0, bits, nil)
			for _, n := range []int{1, 2, 4096, api.MaxCells - 1, api.MaxCells} {
				refuseExpand(t, list, n, bits, api.ErrForm)
			}
		}
		refuseExpand(t, []api.Token{literal(1), copied(4096, 1)}, api.MaxCells, bits, api.ErrForm)
	}
}

// P17.1: numbers of pixels, and caches, that may not be; also where the steps may not be either.
func TestExpandOfWrongNumbers(t *testing.T) {
	lists := [][]api.Token{nil, {literal(7)}, {literal(7), copied(3, 1)}, {known(0)}, {{}}, {copied(1, 1)}}
	for _, list := range lists {
		for _, n := range []int{math.MinInt, math.MinInt + 1, 1 - 1<<32, -65536, -4, -2, -1, api.MaxCells + 1, api.MaxCells + 2, 2 * api.MaxCells, 1 << 31, 1 << 32, 1<<32 + 1, math.MaxInt - 1, math.MaxInt} {
			for _, bits := range []int{0, 1, 11, 12, -1} {
				refuseExpand(t, list, n, bits, api.ErrArg)
			}
		}
		for _, bits := range wrongCaches {
			for n := range 6 {
				refuseExpand(t, list, n, bits, api.ErrArg)
			}
			refuseExpand(t, list, api.MaxCells, bits, api.ErrArg)
		}
	}
}

// P17.1: copies of each Len and Dist that may be, and of the next ones that may not.
func TestCopiesAtTheirEnds(t *testing.T) {
	for _, there := range []int{1, 2, 3, 100, 4096, 5000} {
		pix := sample(there, 1<<20)
		list := make([]api.Token, there)
		for i, p := range pix {
			list[i] = literal(p)
		}
		for _, n := range []int{1, 2, 4095, 4096} {
			for _, dist := range []int{1, 2, there - 1, there} {
				if dist < 1 || dist > there {
					continue
				}
				all := append(slices.Clone(list), copied(n, dist))
				want, _ := wantExpand(all, there+n, 0)
				expectExpand(t, all, there+n, 0, want)
				expectExpand(t, all, there+n, 11, want)
				refuseExpand(t, all, there+n-1, 0, api.ErrForm)
				refuseExpand(t, all, there+n+1, 0, api.ErrForm)
			}
			for _, dist := range []int{math.MinInt, -there, -1, 0, there + 1, there + 2, 1<<32 + 1, math.MaxInt} {
				refuseExpand(t, append(slices.Clone(list), copied(n, dist)), there+n, 0, api.ErrForm)
			}
		}
		for _, n := range wrongLens {
			for _, told := range []int{there, there + 1, there + 4096, there + 4097, there + 8192, there + 65537, api.MaxCells} {
				refuseExpand(t, append(slices.Clone(list), copied(n, 1)), told, 0, api.ErrForm)
			}
		}
	}
}

// P17.1: a step may copy from ahead of MaxFar: only how many pixels are there counts.
func TestFarCopies(t *testing.T) {
	list := []api.Token{literal(5), literal(6)}
	there := 2
	for there <= api.MaxFar {
		list = append(list, copied(4096, 1))
		there += 4096
	}
	for _, dist := range []int{api.MaxFar, api.MaxFar + 1, there - 1, there} {
		want := uint32(6)
		if dist == there {
			want = 5
		}
		got, e := token.Expand(append(slices.Clone(list), copied(1, dist)), there+1, 0)
		if e != api.OK || len(got) != there+1 || got[there] != want {
			t.Errorf("Dist %d of %d: %d pixels, error %d", dist, there, len(got), e)
		}
	}
	refuseExpand(t, append(slices.Clone(list), copied(1, there+1)), there+1, 0, api.ErrForm)
}

// P17.1: steps that are none, at each place among others.
func TestWrongSteps(t *testing.T) {
	wrong := []api.Token{{}, {Argb: 7}, copied(1, 0), copied(0, 1), copied(-1, 1), copied(1, -1), copied(1, 10), copied(4097, 1)}
	for _, kind := range []int{math.MinInt, -3, -2, -1, 0, 4, 5, 7, 255, 256, 257, 1 << 32, 1<<32 + 1, 1<<32 + 2, 1<<32 + 3, math.MaxInt} {
		wrong = append(wrong, api.Token{Kind: kind, Len: 1, Dist: 1, Index: 1, Argb: 7})
	}
	for _, bits := range []int{0, 1, 2, 4, 10, 11} {
		steps := slices.Clone(wrong)
		for _, index := range []int{math.MinInt, math.MinInt + 1, 1 - 1<<32, -1 << bits, -2, -1, 1 << bits, 1<<bits + 1, 2 << bits, 1 << 12, 1 << 31, 1 << 32, 1<<32 + 1, math.MaxInt} {
			steps = append(steps, known(index))
		}
		if bits == 0 {
			steps = append(steps, known(0), known(1))
		}
		for _, step := range steps {
			for at := range 4 {
				list := slices.Insert([]api.Token{literal(7), literal(8), copied(3, 2)}, at, step)
				for n := range 8 {
					refuseExpand(t, list, n, bits, api.ErrForm)
				}
			}
		}
		// The last place, and the first, are places.
		if bits > 0 {
			expectExpand(t, []api.Token{known(1<<bits - 1), known(0)}, 2, bits, []uint32{0, 0})
		}
	}
}

// P17.1: steps of n pixels are told with just that n; not one more, even if it copies what may be.
func TestMoreAndFewer(t *testing.T) {
	list := []api.Token{literal(7), literal(8), copied(3, 2), known(0), copied(1, 6), literal(9), copied(10, 4)}
	ends := map[int]int{0: 0, 1: 1, 2: 2, 5: 3, 6: 4, 7: 5, 8: 6, 18: 7}
	for steps := range len(list) + 1 {
		for n := range 25 {
			if ends[n] == steps && (n == 0 || ends[n] > 0) {
				want, _ := wantExpand(list[:steps], n, 3)
				expectExpand(t, list[:steps], n, 3, want)
			} else {
				refuseExpand(t, list[:steps], n, 3, api.ErrForm)
			}
		}
	}
	for _, more := range []api.Token{literal(0), copied(1, 1), copied(4096, 18), known(0), {}} {
		refuseExpand(t, append(slices.Clone(list), more), 18, 3, api.ErrForm)
	}
}

// P17.1: fields that a step of its Kind does not have are of no account.
func TestOtherFields(t *testing.T) {
	list := []api.Token{
		{Kind: api.Literal, Len: -1, Dist: 9, Index: -1, Argb: 5},
		{Kind: api.Literal, Len: 5000, Dist: -9, Index: 5000, Argb: 8},
		{Kind: api.Copy, Len: 2, Dist: 2, Index: -1, Argb: 3},
		{Kind: api.Known, Len: -7, Dist: 70, Index: 9, Argb: 3},
	}
	expectExpand(t, list, 5, 4, []uint32{5, 8, 5, 8, 5})
}

// P17.1: all short lists, of right and wrong steps.
func TestAllShortLists(t *testing.T) {
	steps := []api.Token{literal(1), literal(5), copied(1, 1), copied(2, 1), copied(3, 2), copied(1, 3), known(0), known(1), known(2), copied(0, 1), copied(1, 0), {}}
	var lists [][]api.Token
	for longer := [][]api.Token{nil}; len(longer[0]) <= 4; {
		lists = append(lists, longer...)
		var next [][]api.Token
		for _, list := range longer {
			for _, step := range steps {
				next = append(next, append(slices.Clone(list), step))
			}
		}
		longer = next
	}
	for _, list := range lists {
		for n := range 8 {
			for bits := range 3 {
				want, ok := wantExpand(list, n, bits)
				got, e := token.Expand(list, n, bits)
				if ok != (e == api.OK) || !ok && (e != api.ErrForm || len(got) != 0) || ok && !slices.Equal(got, want) {
					t.Fatalf("Expand(%v, %d, %d) = %v, %d; want %v, %v", list, n, bits, got, e, want, ok)
				}
			}
		}
	}
}

// P17.1: long lists of all kinds of steps, with each cache.
func TestLongLists(t *testing.T) {
	for bits := range api.MaxCache + 1 {
		var list []api.Token
		n := 0
		for i, x := range sample(600, 1<<19) {
			x := int(x >> 3 & 0xffff)
			switch {
			case i == 0 || i%3 == 0:
				list = append(list, literal(uint32(x%60)*0x00010101))
				n++
			case i%3 == 1 && bits > 0:
				list = append(list, known(x%(1<<bits)))
				n++
			default:
				list = append(list, copied(x%30+1, x/30%n+1))
				n += x%30 + 1
			}
		}
		want, ok := wantExpand(list, n, bits)
		if !ok {
			t.Fatalf("cache %d: the list is none", bits)
		}
		expectExpand(t, list, n, bits, want)
		refuseExpand(t, list, n-1, bits, api.ErrForm)
		refuseExpand(t, list, n+1, bits, api.ErrForm)
	}
}

// P17.2: pixels and their steps, by hand; the chapter's example first.
func TestCoverByHand(t *testing.T) {
	for _, c := range []struct {
		what  string
		bits  int
		pix   []uint32
		spans []api.Span
		want  []api.Token
	}{
		{"a Literal, a Copy", 0, []uint32{5, 5, 5}, []api.Span{{At: 1, Len: 2, Dist: 1}}, []api.Token{literal(5), copied(2, 1)}},
		{"no spans", 0, []uint32{7, 8, 7, 0}, nil, []api.Token{literal(7), literal(8), literal(7), literal(0)}},
		{"a Literal between", 0, []uint32{7, 8, 7, 8, 9, 8}, []api.Span{{At: 2, Len: 2, Dist: 2}, {At: 5, Len: 1, Dist: 2}}, []api.Token{literal(7), literal(8), copied(2, 2), literal(9), copied(1, 2)}},
		{"one right behind the other", 0, []uint32{7, 7, 7, 7}, []api.Span{{At: 1, Len: 1, Dist: 1}, {At: 2, Len: 2, Dist: 2}}, []api.Token{literal(7), copied(1, 1), copied(2, 2)}},
		{"Literals behind", 0, []uint32{7, 7, 8, 7}, []api.Span{{At: 1, Len: 1, Dist: 1}}, []api.Token{literal(7), copied(1, 1), literal(8), literal(7)}},
		{"one pixel", 0, []uint32{7}, nil, []api.Token{literal(7)}},
		{"Knowns", 4, []uint32{5, 5, 8, 5, 8}, nil, []api.Token{literal(5), known(9), literal(8), known(9), known(15)}},
		{"0 of a new cache", 4, []uint32{0, 0}, nil, []api.Token{known(0), known(0)}},
		{"0 in its place alone", 4, []uint32{9, 0, 0, 9}, nil, []api.Token{literal(9), literal(0), known(0), literal(9)}},
		{"a place that is taken", 4, []uint32{0xff000000, 0xdeadbeef, 0xff000000, 0xff000000}, nil, []api.Token{literal(0xff000000), literal(0xdeadbeef), literal(0xff000000), known(4)}},
		{"a Copy takes it again", 4, []uint32{0xff000000, 0xdeadbeef, 0xff000000, 0xff000000, 0xdeadbeef}, []api.Span{{At: 2, Len: 1, Dist: 2}}, []api.Token{literal(0xff000000), literal(0xdeadbeef), copied(1, 2), known(4), literal(0xdeadbeef)}},
		{"a Copy of what is known", 4, []uint32{5, 5, 5, 5}, []api.Span{{At: 2, Len: 1, Dist: 1}}, []api.Token{literal(5), known(9), copied(1, 1), known(9)}},
		{"one place for 1 and 9", 1, []uint32{1, 5, 1, 9, 5, 1}, nil, []api.Token{literal(1), literal(5), known(0), literal(9), known(1), literal(1)}},
		{"the greatest", 11, []uint32{0xffffffff, 0xffffffff, 0}, nil, []api.Token{literal(0xffffffff), known(1806), known(0)}},
		{"the same without", 0, []uint32{0xffffffff, 0xffffffff, 0}, nil, []api.Token{literal(0xffffffff), literal(0xffffffff), literal(0)}},
	} {
		if got, e := token.Cover(c.pix, c.bits, c.spans); e != api.OK || !slices.Equal(got, c.want) {
			t.Errorf("%s: Cover = %v, %d; want %v", c.what, got, e, c.want)
		}
		expectFit(t, c.pix, c.spans, c.bits)
	}
}

// P17.2: of no pixels no steps, and no spans that fit.
func TestNoPixels(t *testing.T) {
	for bits := range api.MaxCache + 1 {
		for _, spans := range [][]api.Span{nil, {}} {
			expectCover(t, nil, bits, spans, nil)
			expectCover(t, []uint32{}, bits, spans, nil)
		}
	}
	expectFit(t, nil, nil, 0, 1, 11)
	for _, s := range []api.Span{{}, {Len: 1}, {Len: 1, Dist: 1}, {At: 1, Len: 1, Dist: 1}} {
		refuseFit(t, "no pixels", nil, s)
	}
}

// P17.2: all spans of short pixels, alone and two by two.
func TestAllShortSpans(t *testing.T) {
	var spans []api.Span
	for at := -1; at <= 5; at++ {
		for n := -1; n <= 5; n++ {
			for dist := -1; dist <= 5; dist++ {
				spans = append(spans, api.Span{At: at, Len: n, Dist: dist})
			}
		}
	}
	expect := func(pix []uint32, list ...api.Span) bool {
		fit := wantFits(pix, list)
		if got := token.Fits(pix, list); got != fit {
			t.Fatalf("Fits(%v, %v) = %v", pix, list, got)
		}
		for _, bits := range []int{0, 1, 3} {
			if fit {
				expectCover(t, pix, bits, list, wantCover(pix, bits, list))
				expectFit(t, pix, list, bits)
			} else {
				refuseCover(t, pix, bits, list)
			}
		}
		return fit
	}
	for n := range 5 {
		for number := range 1 << n {
			pix := make([]uint32, n)
			for i := range pix {
				pix[i] = 1 + uint32(number>>i&1)*4
			}
			for _, first := range spans {
				if !expect(pix, first) {
					continue
				}
				for _, second := range spans {
					expect(pix, first, second)
				}
			}
		}
	}
}

// P17.2: spans at their ends fit: from pixel 1 on, right behind one another, up to the last pixel, of Len 1 and MaxCopy, of Dist 1 and At.
func TestSpansAtTheirEnds(t *testing.T) {
	pix := slices.Repeat([]uint32{3}, 10000)
	for _, spans := range [][]api.Span{
		{{At: 1, Len: 1, Dist: 1}},
		{{At: 1, Len: 4096, Dist: 1}},
		{{At: 9999, Len: 1, Dist: 1}},
		{{At: 9999, Len: 1, Dist: 9999}},
		{{At: 5904, Len: 4096, Dist: 5904}},
		{{At: 5904, Len: 4096, Dist: 1}},
		{{At: 1, Len: 1, Dist: 1}, {At: 2, Len: 1, Dist: 1}, {At: 3, Len: 1, Dist: 3}},
		{{At: 1, Len: 4096, Dist: 1}, {At: 4097, Len: 4096, Dist: 4097}, {At: 8193, Len: 1807, Dist: 2}},
	} {
		expectFit(t, pix, spans, 0, 1, 11)
	}
	refuseFit(t, "above MaxCopy", pix, api.Span{At: 1, Len: 4097, Dist: 1})
	refuseFit(t, "beyond the pixels", pix, api.Span{At: 5905, Len: 4096, Dist: 1})
	refuseFit(t, "above At", pix, api.Span{At: 5904, Len: 4096, Dist: 5905})
	refuseFit(t, "within the one ahead", pix, api.Span{At: 1, Len: 4096, Dist: 1}, api.Span{At: 4096, Len: 1, Dist: 1})
}

// P17.2: Dist up to MaxFar, and not above, even where just these pixels stand there.
func TestFarSpans(t *testing.T) {
	const n = api.MaxFar + 50
	for _, ahead := range []int{0, 1, 20} {
		for _, c := range []struct {
			dist int
			fit  bool
		}{{api.MaxFar - 1, true}, {api.MaxFar, true}, {api.MaxFar + 1, false}, {api.MaxFar + 20, false}} {
			pix := rising(n)
			at := ahead + c.dist
			copy(pix[at:at+5], pix[ahead:])
			s := api.Span{At: at, Len: 5, Dist: c.dist}
			if c.fit {
				expectFit(t, pix, []api.Span{s}, 0, 11)
			} else {
				refuseFit(t, "above MaxFar", pix, s)
			}
		}
	}
}

// P17.2: spans that are none, by hand and with numbers at their ends.
func TestSpansThatDoNotFit(t *testing.T) {
	pix := []uint32{7, 8, 7, 8, 7, 9}
	for _, c := range []struct {
		what  string
		spans []api.Span
	}{
		{"of pixel 0", []api.Span{{At: 0, Len: 1, Dist: 1}}},
		{"of pixel 0, and no Dist", []api.Span{{At: 0, Len: 1, Dist: 0}}},
		{"no Len", []api.Span{{At: 2, Len: 0, Dist: 2}}},
		{"no Dist", []api.Span{{At: 2, Len: 2, Dist: 0}}},
		{"a Dist below 0", []api.Span{{At: 2, Len: 2, Dist: -2}}},
		{"a Len below 0", []api.Span{{At: 2, Len: -2, Dist: 2}}},
		{"above At", []api.Span{{At: 2, Len: 2, Dist: 3}}},
		{"one pixel else, the last", []api.Span{{At: 2, Len: 4, Dist: 2}}},
		{"one pixel else, the first", []api.Span{{At: 1, Len: 3, Dist: 1}}},
		{"all else", []api.Span{{At: 1, Len: 1, Dist: 1}}},
		{"beyond the pixels", []api.Span{{At: 5, Len: 2, Dist: 1}}},
		{"behind the pixels", []api.Span{{At: 6, Len: 1, Dist: 1}}},
		{"far behind the pixels", []api.Span{{At: 7, Len: 1, Dist: 1}}},
		{"one over the other", []api.Span{{At: 2, Len: 2, Dist: 2}, {At: 3, Len: 2, Dist: 2}}},
		{"twice the same", []api.Span{{At: 2, Len: 2, Dist: 2}, {At: 2, Len: 2, Dist: 2}}},
		{"falling", []api.Span{{At: 4, Len: 1, Dist: 2}, {At: 2, Len: 1, Dist: 2}}},
		{"the second is none", []api.Span{{At: 2, Len: 1, Dist: 2}, {At: 3, Len: 1, Dist: 1}}},
		{"the first is none", []api.Span{{At: 1, Len: 1, Dist: 1}, {At: 2, Len: 1, Dist: 2}}},
	} {
		refuseFit(t, c.what, pix, c.spans...)
	}
	expectFit(t, pix, []api.Span{{At: 2, Len: 3, Dist: 2}}, 0, 1, 11)
	ends := []int{math.MinInt, math.MinInt + 1, 2 - 1<<32, -3, -2, -1, math.MaxInt - 3, math.MaxInt - 2, math.MaxInt - 1, math.MaxInt, 1<<32 + 2, 1 << 63 >> 1}
	for _, x := range ends {
		refuseFit(t, "At", pix, api.Span{At: x, Len: 2, Dist: 2})
		refuseFit(t, "Dist", pix, api.Span{At: 2, Len: 2, Dist: x})
		refuseFit(t, "At and Dist", pix, api.Span{At: x, Len: 2, Dist: x})
		refuseFit(t, "the second At", pix, api.Span{At: 2, Len: 2, Dist: 2}, api.Span{At: x, Len: 1, Dist: 2})
		for _, y := range append(wrongLens, ends...) {
			refuseFit(t, "Len", pix, api.Span{At: 2, Len: y, Dist: 2})
			refuseFit(t, "all", pix, api.Span{At: x, Len: y, Dist: x})
		}
	}
	// What lies behind the pixels, in their spare room, is none of them.
	refuseFit(t, "spare room", []uint32{7, 7, 7, 7}[:2], api.Span{At: 1, Len: 2, Dist: 1})
}

// P17.2: caches that may not be; also of no pixels.
func TestCoverOfWrongCaches(t *testing.T) {
	for _, bits := range wrongCaches {
		refuseCover(t, nil, bits, nil)
		refuseCover(t, []uint32{7, 7, 7}, bits, nil)
		refuseCover(t, []uint32{7, 7, 7}, bits, []api.Span{{At: 1, Len: 2, Dist: 1}})
		refuseCover(t, []uint32{7, 7, 7}, bits, []api.Span{{At: 0, Len: 2, Dist: 1}})
	}
}

// P17.2: the steps of many pixels, by Greedy's spans, by every other one of these, and by none, with each cache.
func TestCoverOfMany(t *testing.T) {
	for _, colors := range []int{1, 2, 3, 16, 200, 5000} {
		pix := sample(900, colors)
		spans := token.Greedy(pix, 8)
		half := slices.Clone(spans)
		for i := range len(half) / 2 {
			half[i] = half[2*i]
		}
		half = half[:len(half)/2]
		for _, list := range [][]api.Span{spans, half, nil} {
			for bits := range api.MaxCache + 1 {
				expectCover(t, pix, bits, list, wantCover(pix, bits, list))
				expectFit(t, pix, list, bits)
			}
		}
	}
}

// greedyPixels answers pixels of many kinds: few and many colours, runs, rows that come again, and none.
func greedyPixels() [][]uint32 {
	lists := [][]uint32{nil, {}, {7}, {7, 7}, {7, 8}, {7, 7, 7}, {7, 8, 7, 8, 7, 9}, slices.Repeat([]uint32{0}, 10000), rising(3000)}
	for _, colors := range []int{1, 2, 3, 10, 1000} {
		for _, n := range []int{3, 4, 5, 10, 4097, 4098, 6000} {
			lists = append(lists, sample(n, colors))
		}
	}
	for _, n := range []int{1, 2, 3, 7, 100, 4095, 4096, 4097, 5000} {
		lists = append(lists, slices.Repeat(sample(n, 40), 3))
	}
	return lists
}

// P17.2: Greedy's spans fit, whatever most is, so that they cover the pixels.
func TestGreedyFits(t *testing.T) {
	for _, pix := range greedyPixels() {
		for _, most := range []int{1, 2, 3, 4, 50, 1023, 1024, 1025, 1 << 32, math.MaxInt} {
			expectFit(t, pix, token.Greedy(pix, most), 0, 5)
		}
	}
}

// P17.2: of all short pixels, too.
func TestGreedyOfAllShort(t *testing.T) {
	for n := range 9 {
		for number := range 1 << (2 * n) {
			pix := make([]uint32, n)
			for i := range pix {
				pix[i] = uint32(number >> (2 * i) & 3)
			}
			for _, most := range []int{1, 3} {
				if spans := token.Greedy(pix, most); !wantFits(pix, spans) {
					t.Fatalf("Greedy(%v, %d) = %v", pix, most, spans)
				}
			}
		}
	}
}

// P17.2: pixels that come again from just MaxFar ahead, and from farther.
func TestGreedyFromAfar(t *testing.T) {
	for _, dist := range []int{api.MaxFar - 1, api.MaxFar, api.MaxFar + 1, api.MaxFar + 2} {
		pix := rising(api.MaxFar + 5000)
		copy(pix[dist+3:], pix[3:4000])
		spans := token.Greedy(pix, 4)
		expectFit(t, pix, spans, 0)
		if found := len(spans) > 0; found != (dist <= api.MaxFar) {
			t.Errorf("Greedy of what comes again from %d ahead: %v", dist, spans)
		}
	}
}

// P17.2: none, if most is below 1.
func TestGreedyOfNone(t *testing.T) {
	for _, pix := range greedyPixels() {
		for _, most := range []int{math.MinInt, math.MinInt + 1, 1 - 1<<32, -1024, -2, -1, 0} {
			if spans := token.Greedy(pix, most); len(spans) != 0 {
				t.Errorf("Greedy(%s, %d) = %v", short(pix), most, spans)
			}
		}
	}
}

// P17.2 leaves free which spans Greedy answers; but pixels that come again are found, or it would be of no use.
func TestGreedyFinds(t *testing.T) {
	for _, c := range []struct {
		what string
		most int
		pix  []uint32
		want []api.Span
	}{
		{"one colour", 4, slices.Repeat([]uint32{7}, 10), []api.Span{{At: 1, Len: 9, Dist: 1}}},
		{"more of it than one copy tells", 4, slices.Repeat([]uint32{7}, 5001), []api.Span{{At: 1, Len: 4096, Dist: 1}, {At: 4097, Len: 904, Dist: 1}}},
		{"twice the same", 1, slices.Repeat(rising(50), 2), []api.Span{{At: 50, Len: 50, Dist: 50}}},
		{"the longest one", 2, []uint32{1, 2, 3, 4, 9, 1, 2, 3, 8, 1, 2, 3, 4, 5}, []api.Span{{At: 5, Len: 3, Dist: 5}, {At: 9, Len: 4, Dist: 9}}},
		{"the longest one of the last place", 1, []uint32{1, 2, 3, 4, 9, 1, 2, 3, 8, 1, 2, 3, 4, 5}, []api.Span{{At: 5, Len: 3, Dist: 5}, {At: 9, Len: 3, Dist: 4}}},
		{"the nearest of the same length", 4, []uint32{1, 2, 3, 9, 1, 2, 3, 8, 1, 2, 3, 7}, []api.Span{{At: 4, Len: 3, Dist: 4}, {At: 8, Len: 3, Dist: 4}}},
		{"nothing", 4, rising(50), nil},
	} {
		if got := token.Greedy(c.pix, c.most); !slices.Equal(got, c.want) {
			t.Errorf("%s: Greedy = %v; want %v", c.what, got, c.want)
		}
	}
}

// R4: what is handed in is left as it is, with the spare room of its lists.
func TestWhatIsHandedInIsNotChanged(t *testing.T) {
	pixRoom := slices.Concat([]uint32{1, 2, 3}, slices.Repeat(sample(20, 9), 2), []uint32{4, 5, 6, 7})
	pix := pixRoom[3:43]
	spanRoom := []api.Span{{At: 1}, {At: 20, Len: 5, Dist: 20}, {At: 30, Len: 5, Dist: 20}, {At: 9, Len: 9, Dist: 9}, {}}
	spans := spanRoom[1:3]
	stepRoom := []api.Token{literal(9), literal(7), known(0), copied(3, 2), literal(4), {}}
	steps := stepRoom[1:4]
	keptPix, keptSpans, keptSteps := slices.Clone(pixRoom), slices.Clone(spanRoom), slices.Clone(stepRoom)
	for _, bits := range []int{0, 1, 11, 12} {
		token.Expand(steps, 5, bits)
		token.Expand(steps, 4, bits)
		token.Cover(pix, bits, spans)
		token.Cover(pix, bits, spanRoom)
		token.Fits(pix, spans)
		token.Fits(pix, spanRoom)
		token.Greedy(pix, bits)
		if !slices.Equal(pixRoom, keptPix) || !slices.Equal(spanRoom, keptSpans) || !slices.Equal(stepRoom, keptSteps) {
			t.Fatalf("with cache %d: %v, %v, %v", bits, pixRoom, spanRoom, stepRoom)
		}
	}
}

// expectNew holds that what a call answers shares nothing with another answer, nor hangs on what is handed in after.
func expectNew[T comparable](t *testing.T, name string, call func() []T, spoil func()) {
	t.Helper()
	first := call()
	kept := slices.Clone(first)
	second := call()
	if len(kept) == 0 || !slices.Equal(second, kept) {
		t.Errorf("%s: %v, and then %v", name, kept, second)
	}
	// To the end of the room behind it, which is not shared either.
	clear(second[:cap(second)])
	if spoil(); !slices.Equal(first, kept) {
		t.Errorf("%s: the answer has changed: %v; want %v", name, first, kept)
	}
}

// R4 and R5: what is answered is new memory, and the same once and again.
func TestAnswersAreNew(t *testing.T) {
	for _, bits := range []int{0, 1, 4, 11} {
		pix := slices.Repeat(sample(30, 9), 2)
		spans := []api.Span{{At: 30, Len: 20, Dist: 30}}
		list := wantCover(pix, bits, spans)
		expectNew(t, "Expand", func() []uint32 { got, _ := token.Expand(list, 60, bits); return got }, func() { clear(list) })
		expectNew(t, "Cover", func() []api.Token { got, _ := token.Cover(pix, bits, spans); return got }, func() { clear(spans) })
		expectNew(t, "Greedy", func() []api.Span { return token.Greedy(pix, 4) }, func() { clear(pix) })
	}
}

// R5: what is in a cache at the end of a call is not there at the beginning of the next.
func TestAskedAgain(t *testing.T) {
	for range 3 {
		expectExpand(t, []api.Token{literal(5), known(9)}, 2, 4, []uint32{5, 5})
		expectExpand(t, []api.Token{known(9)}, 1, 4, []uint32{0})
		refuseExpand(t, []api.Token{literal(8), known(16)}, 2, 4, api.ErrForm)
		expectExpand(t, []api.Token{known(15)}, 1, 4, []uint32{0})
		expectCover(t, []uint32{5, 5}, 4, nil, []api.Token{literal(5), known(9)})
		expectCover(t, []uint32{5}, 4, nil, []api.Token{literal(5)})
	}
}
