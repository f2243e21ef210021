package size_test

import (
	"container/heap"
	"math"
	"math/big"
	"slices"
	"sort"
	"sync"
	"testing"

	"marquetry/api"
	"marquetry/code"
	"marquetry/size"
)

// A most that may not be.
var wrongMost = []int{math.MinInt, math.MinInt + 1, math.MinInt32, -1 << 32, -64, -16, -15, -2, -1, 0,
	16, 17, 31, 32, 63, 64, 65, 255, 256, 257, 1<<32 + 1, 1<<32 + 15, math.MaxInt - 1, math.MaxInt}

// Counts that may not be.
var wrongCounts = []int{math.MinInt, math.MinInt + 1, math.MinInt32, -1 << 33, -1 << 32, -1<<32 + 1, -2, -1,
	1<<32 + 1, 1<<32 + 2, 1 << 33, 1 << 40, math.MaxInt - 1, math.MaxInt}

// The numbers of a fixed rule, one after the other.
type numbers uint64

func (n *numbers) below(most int) int {
	*n = *n*6364136223846793005 + 1442695040888963407
	return int(uint64(*n) >> 33 % uint64(most))
}

func above(counts []int) []int {
	var more []int
	for _, c := range counts {
		if c > 0 {
			more = append(more, c)
		}
	}
	return more
}

func repeated(v, n int) []int {
	return slices.Repeat([]int{v}, n)
}

// The least sum of a code, level by level: of open nodes, some are leaves of the greatest counts that are left, the others part in two.
type levels struct {
	left  []int // the sum of the counts behind so many
	most  int
	known map[[3]int]int
}

const never = math.MaxInt

func modelLeast(counts []int, most int) int {
	list := above(counts)
	if len(list) < 2 {
		return append(list, 0)[0]
	}
	slices.SortFunc(list, func(a, b int) int { return b - a })
	m := levels{left: make([]int, len(list)+1), most: most, known: map[[3]int]int{}}
	for i, c := range slices.Backward(list) {
		m.left[i] = m.left[i+1] + c
	}
	return m.least(0, 0, 1)
}

func (m levels) least(level, placed, open int) int {
	n := len(m.left) - 1
	if placed == n && open == 0 {
		return 0
	}
	if level > m.most || open > n-placed || open == 0 {
		return never
	}
	key := [3]int{level, placed, open}
	if v, ok := m.known[key]; ok {
		return v
	}
	best := never
	for leaves := 0; leaves <= open; leaves++ {
		if v := m.least(level+1, placed+leaves, 2*(open-leaves)); v != never {
			best = min(best, v+m.left[placed+leaves])
		}
	}
	m.known[key] = best
	return best
}

type lightest struct{ sort.IntSlice }

func (h *lightest) Push(x any) { h.IntSlice = append(h.IntSlice, x.(int)) }

func (h *lightest) Pop() any {
	last := h.IntSlice[len(h.IntSlice)-1]
	h.IntSlice = h.IntSlice[:len(h.IntSlice)-1]
	return last
}

// The least sum of a code of any lengths: the two lightest are joined, till one is left.
func freeLeast(counts []int) int {
	h := &lightest{above(counts)}
	heap.Init(h)
	total := 0
	for h.Len() > 1 {
		joined := heap.Pop(h).(int) + heap.Pop(h).(int)
		total += joined
		heap.Push(h, joined)
	}
	return total
}

// The lengths, held against all that the chapter says of them, but for the least sum.
func expectLens(t *testing.T, counts []int, most int) []int {
	t.Helper()
	lens, e := size.Best(counts, most)
	if e != api.OK || len(lens) != len(counts) {
		t.Fatalf("Best(%v, %d) = %v, %d; want %d lengths", counts, most, lens, e, len(counts))
	}
	sum := new(big.Rat)
	for i, l := range lens {
		if l < 0 || l > most || (l == 0) != (counts[i] == 0) {
			t.Fatalf("Best(%v, %d) = %v; length %d may not be", counts, most, lens, i)
		}
		if l > 0 {
			sum.Add(sum, big.NewRat(1, 1<<l))
		}
	}
	switch n := len(above(counts)); {
	case n == 0:
		if sum.Sign() != 0 {
			t.Fatalf("Best(%v, %d) = %v; want none above 0", counts, most, lens)
		}
	case n == 1:
		if sum.Cmp(big.NewRat(1, 2)) != 0 {
			t.Fatalf("Best(%v, %d) = %v; want one 1", counts, most, lens)
		}
	default:
		if sum.Cmp(big.NewRat(1, 1)) != 0 || code.Check(lens) != api.OK {
			t.Fatalf("Best(%v, %d) = %v; not complete", counts, most, lens)
		}
	}
	return lens
}

func expectLeast(t *testing.T, counts []int, most, want int) {
	t.Helper()
	lens := expectLens(t, counts, most)
	if total := size.Total(counts, lens); total != want {
		t.Fatalf("Best(%v, %d) = %v, of total %d; want %d", counts, most, lens, total, want)
	}
}

func expectRefused(t *testing.T, counts []int, most int) {
	t.Helper()
	if lens, e := size.Best(counts, most); len(lens) != 0 || e != api.ErrArg {
		t.Errorf("Best of %d counts, %d = %v, %d; want ErrArg", len(counts), most, lens, e)
	}
}

func expectTotal(t *testing.T, counts, lens []int, want int) {
	t.Helper()
	if total := size.Total(counts, lens); total != want {
		t.Errorf("Total(%v, %v) = %d; want %d", counts, lens, total, want)
	}
}

func TestTheChaptersExample(t *testing.T) {
	counts := []int{5, 1, 1}
	lens, e := size.Best(counts, 15)
	if e != api.OK || !slices.Equal(lens, []int{1, 2, 2}) {
		t.Errorf("Best(%v, 15) = %v, %d", counts, lens, e)
	}
	expectTotal(t, counts, lens, 9)
}

// Where just one list of lengths has the least sum, it is that one.
func TestOrdinary(t *testing.T) {
	for _, x := range []struct {
		counts []int
		most   int
		lens   []int
	}{
		{[]int{3, 4}, 1, []int{1, 1}},
		{[]int{1 << 32, 1}, 15, []int{1, 1}},
		{[]int{1, 5, 1}, 2, []int{2, 1, 2}},
		{[]int{4, 4, 4, 4}, 15, []int{2, 2, 2, 2}},
		{[]int{1, 2, 4, 8, 16}, 15, []int{4, 4, 3, 2, 1}},
		{[]int{16, 8, 4, 2, 1}, 4, []int{1, 2, 3, 4, 4}},
		{[]int{8, 0, 4, 0, 0, 2, 1, 0}, 15, []int{1, 0, 2, 0, 0, 3, 3, 0}},
		{[]int{7, 7, 7, 7, 30}, 15, []int{3, 3, 3, 3, 1}},
		{[]int{9, 9, 9, 5, 5}, 15, []int{2, 2, 2, 3, 3}},
	} {
		lens, e := size.Best(x.counts, x.most)
		if e != api.OK || !slices.Equal(lens, x.lens) {
			t.Errorf("Best(%v, %d) = %v, %d; want %v", x.counts, x.most, lens, e, x.lens)
		}
		expectLeast(t, x.counts, x.most, modelLeast(x.counts, x.most))
	}
}

func TestEachShortList(t *testing.T) {
	for n := range 6 {
		counts := make([]int, n)
		for {
			for most := 1; most <= 5; most++ {
				if len(above(counts)) > 1<<most {
					expectRefused(t, counts, most)
				} else {
					expectLeast(t, counts, most, modelLeast(counts, most))
				}
			}
			i := 0
			for i < n && counts[i] == 5 {
				counts[i] = 0
				i++
			}
			if i == n {
				break
			}
			counts[i]++
		}
	}
}

func TestManyForms(t *testing.T) {
	rule := numbers(6)
	for range 1500 {
		counts := make([]int, 1+rule.below(40))
		height := 1 + rule.below(32)
		for i := range counts {
			if rule.below(5) > 0 {
				counts[i] = 1 + rule.below(1<<(1+rule.below(height)))
			}
		}
		for _, most := range []int{1 + rule.below(15), 6, 15} {
			if len(above(counts)) <= 1<<most {
				expectLeast(t, counts, most, modelLeast(counts, most))
			} else {
				expectRefused(t, counts, most)
			}
		}
	}
}

// Counts that would have one length each, if they were free.
func TestLongerThanMostIfTheyWereFree(t *testing.T) {
	fibonacci, powers := []int{1, 1}, []int{1}
	for len(fibonacci) < 40 {
		fibonacci = append(fibonacci, fibonacci[len(fibonacci)-1]+fibonacci[len(fibonacci)-2])
	}
	for len(powers) < 33 {
		powers = append(powers, 1<<len(powers))
	}
	for _, counts := range [][]int{fibonacci, powers} {
		down := slices.Clone(counts)
		slices.Reverse(down)
		for n := 2; n <= len(counts); n++ {
			for most := 1; most <= 15; most++ {
				if n > 1<<most {
					expectRefused(t, counts[:n], most)
					continue
				}
				want := modelLeast(counts[:n], most)
				if free := freeLeast(counts[:n]); (want == free) != (n-1 <= most) && counts[0] != counts[1] {
					t.Fatalf("the model has %d of %d counts, %d; free %d", want, n, most, free)
				}
				expectLeast(t, counts[:n], most, want)
				expectLeast(t, down[len(down)-n:], most, want)
			}
		}
	}
}

// Where no length is longer than most, the least sum is the free one.
func TestAsLongAsTheyLike(t *testing.T) {
	rule := numbers(66)
	for _, n := range []int{100, 256, 280, 1000, 2328, 4095, 4096} {
		counts := make([]int, n)
		for i := range counts {
			counts[i] = 100 + rule.below(400)
		}
		expectLeast(t, counts, 15, freeLeast(counts))
	}
}

func TestAsManyAsTwoToMost(t *testing.T) {
	rule := numbers(7)
	for most := 1; most <= 12; most++ {
		n := 1 << most
		counts, sum := make([]int, n), 0
		for i := range counts {
			counts[i] = 1 + rule.below(1<<(1+rule.below(31)))
			sum += counts[i]
		}
		expectLeast(t, counts, most, sum*most)
		if n < 4096 {
			expectLens(t, counts, most+1)
			// Counts that are 0 are not counted.
			with := append(repeated(0, 7), counts...)
			expectLeast(t, with, most, sum*most)
			expectRefused(t, append(with, 1), most)
			expectRefused(t, append([]int{1}, with...), most)
		}
		// One less: the greatest count is one bit shorter.
		if most > 1 {
			expectLeast(t, counts[1:], most, (sum-counts[0])*most-slices.Max(counts[1:]))
		}
	}
}

func TestEqualCounts(t *testing.T) {
	for _, n := range []int{2, 3, 5, 17, 100, 256, 257, 280, 1000, 4095, 4096} {
		for _, count := range []int{1, 2, 77, 1 << 32} {
			short := 0
			for 2<<short <= n {
				short++
			}
			// So many nodes of the level part in two.
			parted := n - 1<<short
			want := count * (n*short + 2*parted)
			for most := 1; most <= 15; most++ {
				if n > 1<<most {
					expectRefused(t, repeated(count, n), most)
				} else {
					expectLeast(t, repeated(count, n), most, want)
				}
			}
		}
	}
}

func TestJustOne(t *testing.T) {
	for _, n := range []int{1, 2, 3, 280, 4096} {
		for _, at := range []int{0, n / 2, n - 1} {
			for _, count := range []int{1, 2, 9, 1 << 32} {
				counts := make([]int, n)
				counts[at] = count
				for most := 1; most <= 15; most++ {
					lens := expectLens(t, counts, most)
					if lens[at] != 1 {
						t.Errorf("one count, %d of %d: length %d", at, n, lens[at])
					}
				}
			}
		}
	}
}

func TestNone(t *testing.T) {
	for most := 1; most <= 15; most++ {
		for _, n := range []int{0, 1, 2, 40, 4096} {
			expectLeast(t, make([]int, n), most, 0)
		}
		if lens, e := size.Best(nil, most); len(lens) != 0 || e != api.OK {
			t.Errorf("Best(nil, %d) = %v, %d", most, lens, e)
		}
	}
}

func TestTheGreatestCounts(t *testing.T) {
	expectLeast(t, []int{1 << 32, 1 << 32, 1, 1 << 32}, 15, 2*3<<32+2)
	expectLeast(t, []int{1 << 32, 1<<32 - 1, 1}, 15, 2<<32+1<<32)
	counts := repeated(1<<32, 4096)
	expectLeast(t, counts, 15, 12<<44)
	expectLeast(t, append(counts[:4095:4095], 0), 15, 12<<32*4095-1<<32)
}

func TestWrongMost(t *testing.T) {
	for _, most := range wrongMost {
		for _, counts := range [][]int{nil, {0}, {1}, {5, 1, 1}, {-1}, repeated(1, 4097)} {
			expectRefused(t, counts, most)
		}
	}
}

func TestWrongCounts(t *testing.T) {
	for _, wrong := range wrongCounts {
		for most := 1; most <= 15; most++ {
			expectRefused(t, []int{wrong}, most)
			expectRefused(t, []int{wrong, 0}, most)
			expectRefused(t, []int{0, 1, wrong}, most)
			expectRefused(t, []int{wrong, 0, 1}, most)
			expectRefused(t, append(repeated(0, 4095), wrong), most)
		}
	}
}

func TestMoreThanTwoToMost(t *testing.T) {
	for most := 1; most < 12; most++ {
		expectRefused(t, repeated(1, 1<<most+1), most)
		expectRefused(t, append(repeated(0, 100), repeated(3, 1<<most+1)...), most)
		expectRefused(t, repeated(2, 4096), most)
	}
}

func TestMoreThan4096Counts(t *testing.T) {
	for most := 1; most <= 15; most++ {
		for _, n := range []int{4097, 5000, 1 << 16} {
			expectRefused(t, make([]int, n), most)
			expectRefused(t, append(make([]int, n-1), 1), most)
		}
	}
	expectRefused(t, repeated(1, 4097), 15)
	expectLeast(t, append(make([]int, 4094), 3, 4), 1, 7)
}

func TestTotal(t *testing.T) {
	expectTotal(t, []int{5, 1, 1}, []int{1, 2, 2}, 9)
	expectTotal(t, []int{0, 9, 3}, []int{4, 0, 2}, 6)
	expectTotal(t, []int{-3, 2, 10}, []int{5, -7, 1}, -19)
	expectTotal(t, []int{1 << 32}, []int{15}, 15<<32)
	expectTotal(t, []int{math.MaxInt, math.MinInt, 4}, []int{1, 1, 1}, 3)
	expectTotal(t, []int{math.MinInt, 6}, []int{0, 7}, 42)
}

func TestTotalOfAsManyAsBothHave(t *testing.T) {
	for _, none := range [][]int{nil, {}} {
		expectTotal(t, none, none, 0)
		expectTotal(t, none, []int{1, 2}, 0)
		expectTotal(t, []int{1, 2}, none, 0)
	}
	expectTotal(t, []int{5, 1, 1}, []int{1, 2}, 7)
	expectTotal(t, []int{5, 1}, []int{1, 2, 2}, 7)
	expectTotal(t, []int{5}, []int{1, 2, 2}, 5)
	expectTotal(t, []int{5, 1, 1}, []int{3}, 15)
	// Room behind a list is not of it.
	expectTotal(t, []int{5, 1, 1, 1}[:1], []int{1, 2, 2}, 5)
	expectTotal(t, []int{5, 1, 1}, []int{1, 2, 2, 2}[:2], 7)
	expectTotal(t, repeated(2, 10000), repeated(3, 9999), 59994)
}

func TestListsAreNotChanged(t *testing.T) {
	room := []int{9, 5, 1, 1, 0, 3, 8, 8, 8}
	was := slices.Clone(room)
	for most := range 17 {
		size.Best(room[1:6], most)
		size.Total(room[:2], room[1:6])
	}
	if !slices.Equal(room, was) {
		t.Errorf("changed: %v", room)
	}
}

func TestLengthsAreNewMemory(t *testing.T) {
	for _, counts := range [][]int{{5, 1, 1, 0}, {0, 4}, {0, 0}} {
		was := slices.Clone(counts)
		first := expectLens(t, counts, 15)
		kept := slices.Clone(first)
		second := expectLens(t, counts, 15)
		all := second[:cap(second)]
		for i := range all {
			all[i] = 77
		}
		if !slices.Equal(first, kept) || !slices.Equal(counts, was) {
			t.Errorf("shared: %v, %v", first, counts)
		}
		if again := expectLens(t, counts, 15); !slices.Equal(again, kept) {
			t.Errorf("the same again: %v; was %v", again, kept)
		}
	}
}

func TestSeveralAtOnce(t *testing.T) {
	counts := []int{1, 1, 2, 3, 5, 8, 13, 21, 0}
	want, _ := size.Best(counts, 4)
	var all sync.WaitGroup
	for range 8 {
		all.Go(func() {
			for range 50 {
				if lens, e := size.Best(counts, 4); e != api.OK || !slices.Equal(lens, want) {
					t.Errorf("%v, %d; want %v", lens, e, want)
				}
			}
		})
	}
	all.Wait()
}
