package cache_test

import (
	"math"
	"math/big"
	"testing"

	"marquetry/api"
	"marquetry/cache"
)

// Times the chapter's factor, its lowest 32 bits are 1: so a colour can be made for any product.
const inverse = 0x22b54b95

// Bits of no cache; some would be those of one, if they were cut off.
var wrongBits = []int{math.MinInt, math.MinInt + 1, math.MinInt + 4, math.MinInt32, -1 << 32, 4 - 1<<32, -256, 4 - 256, -64, -32, -21, -12, -11, -2, -1, 0,
	12, 13, 16, 31, 32, 33, 63, 64, 65, 255, 256, 260, 1 << 16, 1<<16 + 4, 1 << 31, 1 << 32, 1<<32 + 1, 1<<32 + 11, math.MaxInt - 1, math.MaxInt}

// Colours at the ends and of the everyday kind.
var colors = []uint32{0, 1, 2, 3, 5, 7, 8, 9, 0x11, 0x80, 0xff, 0x100, 0xff00, 0xff0000, 0xff000000, 0xff000001, 0x7fffffff, 0x80000000, 0x80000001,
	0x12345678, 0xdeadbeef, 0xff112233, 0xffff0000, 0xff00ff00, 0xff0000ff, 0x80402010, inverse, inverse + 1, 0x1e35a7bd, 0xfffffffe, 0xffffffff}

// sample answers n colours by a fixed rule.
func sample(n int) []uint32 {
	list := make([]uint32, n)
	x := uint32(12345)
	for i := range list {
		x = x*1664525 + 1013904223
		list[i] = x ^ x>>15
	}
	return list
}

// ofProduct answers the colour whose product has these lowest 32 bits.
func ofProduct(low uint32) uint32 {
	return low * inverse
}

// wantSlot answers the slot by the chapter's words, with numbers that do not wrap round.
func wantSlot(argb uint32, bits int) int {
	product := new(big.Int).Mul(big.NewInt(0x1e35a7bd), big.NewInt(int64(argb)))
	lowest := new(big.Int).Mod(product, big.NewInt(1<<32))
	return int(lowest.Int64() / (int64(1) << (32 - bits)))
}

func made(t *testing.T, bits int) *cache.Cache {
	t.Helper()
	c, e := cache.New(bits)
	if c == nil || e != api.OK {
		t.Fatalf("New(%d) = %v, %d", bits, c, e)
	}
	return c
}

func expectSlot(t *testing.T, argb uint32, bits, want int) {
	t.Helper()
	if s := cache.Slot(argb, bits); s != want {
		t.Errorf("Slot(%08x, %d) = %d; want %d", argb, bits, s, want)
	}
}

func expectGet(t *testing.T, c *cache.Cache, index int, want uint32, ok bool) {
	t.Helper()
	if v, is := c.Get(index); v != want || is != ok {
		t.Errorf("Get(%d) = %08x, %v; want %08x, %v", index, v, is, want, ok)
	}
}

func expectFind(t *testing.T, c *cache.Cache, argb uint32, want int, ok bool) {
	t.Helper()
	if n, is := c.Find(argb); n != want || is != ok {
		t.Errorf("Find(%08x) = %d, %v; want %d, %v", argb, n, is, want, ok)
	}
}

// expectPlaces asks for every place, and for those beside the first and the last one.
func expectPlaces(t *testing.T, c *cache.Cache, want []uint32) {
	t.Helper()
	for i, v := range want {
		expectGet(t, c, i, v, true)
	}
	expectGet(t, c, -1, 0, false)
	expectGet(t, c, len(want), 0, false)
}

// P10.1: slots told by hand.
func TestSlotsByHand(t *testing.T) {
	cases := []struct {
		argb                     uint32
		one, four, eight, eleven int
	}{
		{0, 0, 0, 0, 0},
		{1, 0, 1, 0x1e, 241},
		{2, 0, 3, 0x3c, 483},
		{5, 1, 9, 0x97, 1208},
		{8, 1, 15, 0xf1, 1933},
		{9, 0, 0, 0x0f, 127}, // the least whose product runs over
		{0xff, 0, 1, 0x17, 187},
		{0x12345678, 1, 8, 0x8b, 1119},
		{0x80000000, 1, 8, 0x80, 1024},
		{0xff000000, 0, 4, 0x43, 536},
		{0xff112233, 1, 8, 0x8b, 1116},
		{0xff00ff00, 1, 11, 0xb5, 1448},
		{0xffffffff, 1, 14, 0xe1, 1806},
	}
	for _, c := range cases {
		expectSlot(t, c.argb, 1, c.one)
		expectSlot(t, c.argb, 4, c.four)
		expectSlot(t, c.argb, 8, c.eight)
		expectSlot(t, c.argb, 11, c.eleven)
	}
}

// P10.1: slots of many colours, of all bits that may be; most products run over 32 bits.
func TestSlots(t *testing.T) {
	for bits := 1; bits <= api.MaxCache; bits++ {
		for _, argb := range colors {
			expectSlot(t, argb, bits, wantSlot(argb, bits))
		}
		for _, argb := range sample(2000) {
			expectSlot(t, argb, bits, wantSlot(argb, bits))
		}
	}
}

// P10.1: the least and the greatest product of each slot.
func TestSlotsEnds(t *testing.T) {
	for bits := 1; bits <= api.MaxCache; bits++ {
		for slot := range 1 << bits {
			least := uint32(slot) << (32 - bits)
			most := least + (1<<(32-bits) - 1)
			expectSlot(t, ofProduct(least), bits, slot)
			expectSlot(t, ofProduct(most), bits, slot)
		}
	}
}

// P10.1: bits below 1 and above MaxCache.
func TestSlotOfWrongBits(t *testing.T) {
	check := func(bits int) {
		for _, argb := range colors {
			expectSlot(t, argb, bits, 0)
		}
	}
	for _, bits := range wrongBits {
		check(bits)
	}
	for by := range 300 {
		check(-by)
		check(api.MaxCache + 1 + by)
	}
}

// P10.1: so many places, each 0; the colour 0 stands in the first one, and no other colour anywhere.
func TestNew(t *testing.T) {
	for bits := 1; bits <= api.MaxCache; bits++ {
		c := made(t, bits)
		expectPlaces(t, c, make([]uint32, 1<<bits))
		expectFind(t, c, 0, 0, true)
		for _, argb := range append(sample(500), colors...) {
			if argb != 0 {
				expectFind(t, c, argb, 0, false)
			}
		}
	}
}

// P10.1: bits of no cache.
func TestNewOfWrongBits(t *testing.T) {
	check := func(bits int) {
		if c, e := cache.New(bits); c != nil || e != api.ErrArg {
			t.Errorf("New(%d) = %v, %d", bits, c, e)
		}
	}
	for _, bits := range wrongBits {
		check(bits)
	}
	for by := range 300 {
		check(-by)
		check(api.MaxCache + 1 + by)
	}
}

// P10.1: a few colours, told by hand.
func TestAddByHand(t *testing.T) {
	c := made(t, 4)
	c.Add(0xff000000) // 4
	c.Add(5)          // 9
	c.Add(8)          // 15
	expectPlaces(t, c, []uint32{0, 0, 0, 0, 0xff000000, 0, 0, 0, 0, 5, 0, 0, 0, 0, 0, 8})
	expectFind(t, c, 0xff000000, 4, true)
	expectFind(t, c, 5, 9, true)
	expectFind(t, c, 8, 15, true)
	expectFind(t, c, 0, 0, true)
	expectFind(t, c, 1, 0, false)          // its place has 0
	expectFind(t, c, 0xdeadbeef, 0, false) // its place has ff000000

	c.Add(0xdeadbeef) // 4
	expectPlaces(t, c, []uint32{0, 0, 0, 0, 0xdeadbeef, 0, 0, 0, 0, 5, 0, 0, 0, 0, 0, 8})
	expectFind(t, c, 0xdeadbeef, 4, true)
	expectFind(t, c, 0xff000000, 0, false)

	c.Add(9) // 0
	expectGet(t, c, 0, 9, true)
	expectFind(t, c, 9, 0, true)
	expectFind(t, c, 0, 0, false)
}

// P10.1: the chapter's example, and what stands in each place, after each of many colours.
func TestAdd(t *testing.T) {
	for bits := 1; bits <= api.MaxCache; bits++ {
		c := made(t, bits)
		want := make([]uint32, 1<<bits)
		added := append(sample(3000), colors...)
		for _, argb := range added {
			c.Add(argb)
			want[wantSlot(argb, bits)] = argb
			expectFind(t, c, argb, cache.Slot(argb, bits), true)
			expectGet(t, c, wantSlot(argb, bits), argb, true)
		}
		expectPlaces(t, c, want)
		for _, argb := range added {
			slot := wantSlot(argb, bits)
			if want[slot] == argb {
				expectFind(t, c, argb, slot, true)
			} else {
				expectFind(t, c, argb, 0, false)
			}
		}
	}
}

// P10.1: one colour changes its own place alone, whichever that is, the first and the last one with them.
func TestAddToEachPlace(t *testing.T) {
	for bits := 1; bits <= 6; bits++ {
		for slot := range 1 << bits {
			argb := ofProduct(uint32(slot)<<(32-bits) + 1)
			c := made(t, bits)
			c.Add(argb)
			want := make([]uint32, 1<<bits)
			want[slot] = argb
			expectPlaces(t, c, want)
			expectFind(t, c, argb, slot, true)
		}
	}
}

// P10.1: the greatest cache, filled, in its first and last place.
func TestFullCache(t *testing.T) {
	c := made(t, api.MaxCache)
	want := make([]uint32, 1<<api.MaxCache)
	for slot := range want {
		want[slot] = ofProduct(uint32(slot)<<21 + 1)
		c.Add(want[slot])
	}
	expectPlaces(t, c, want)
	expectFind(t, c, want[0], 0, true)
	expectFind(t, c, want[2047], 2047, true)
	expectGet(t, c, 2047, want[2047], true)
	expectGet(t, c, 2048, 0, false)
	expectFind(t, c, 0, 0, false)
}

// P10.1: another colour of the same place takes it; added again, the first one is there again.
func TestPlaceIsTaken(t *testing.T) {
	for bits := 1; bits <= api.MaxCache; bits++ {
		for _, slot := range []int{0, 1, 1<<bits - 1} {
			low := uint32(slot) << (32 - bits)
			first, second := ofProduct(low+1), ofProduct(low+2)
			c := made(t, bits)
			c.Add(first)
			expectFind(t, c, second, 0, false)
			c.Add(second)
			expectFind(t, c, first, 0, false)
			expectFind(t, c, second, slot, true)
			expectGet(t, c, slot, second, true)
			c.Add(first)
			expectFind(t, c, first, slot, true)
			expectFind(t, c, second, 0, false)
			c.Add(first)
			expectFind(t, c, first, slot, true)
		}
	}
}

// P10.1: the colour 0 is one as any other.
func TestColorZero(t *testing.T) {
	for bits := 1; bits <= api.MaxCache; bits++ {
		c := made(t, bits)
		other := ofProduct(1)
		c.Add(other)
		expectFind(t, c, 0, 0, false)
		expectFind(t, c, other, 0, true)
		c.Add(0)
		expectFind(t, c, 0, 0, true)
		expectFind(t, c, other, 0, false)
		expectGet(t, c, 0, 0, true)
	}
}

// P10.1: the least cache has two places.
func TestLeastCache(t *testing.T) {
	c := made(t, 1)
	c.Add(1) // 0
	c.Add(5) // 1
	expectPlaces(t, c, []uint32{1, 5})
	expectFind(t, c, 1, 0, true)
	expectFind(t, c, 5, 1, true)
	c.Add(8) // 1
	expectPlaces(t, c, []uint32{1, 8})
	expectFind(t, c, 5, 0, false)
	c.Add(9) // 0
	expectPlaces(t, c, []uint32{9, 8})
	expectFind(t, c, 1, 0, false)
}

// P10.1: indices of no place; some would be one, if they were cut off.
func TestGetOfWrongIndex(t *testing.T) {
	for bits := 1; bits <= api.MaxCache; bits++ {
		c := made(t, bits)
		for slot := range 1 << bits {
			c.Add(ofProduct(uint32(slot)<<(32-bits) + 1))
		}
		n := 1 << bits
		for _, index := range []int{math.MinInt, math.MinInt + 1, math.MinInt32, -1 << 32, 1 - 1<<32, -65536, -2048, -n - 1, -n, -n + 1, -2, -1,
			n, n + 1, 2*n - 1, 2 * n, 2048, 2049, 65536, 65537, 1 << 31, 1 << 32, 1<<32 + 1, math.MaxInt - 1, math.MaxInt} {
			expectGet(t, c, index, 0, false)
		}
	}
}

// P10.1: a nil *Cache; R1: nor does one that New did not make have a place.
func TestNilCache(t *testing.T) {
	for _, c := range []*cache.Cache{nil, {}} {
		for _, argb := range colors {
			c.Add(argb)
			expectFind(t, c, argb, 0, false)
		}
		for _, index := range []int{math.MinInt, -1, 0, 1, 2, 2047, 2048, math.MaxInt} {
			expectGet(t, c, index, 0, false)
		}
	}
}

// R4 and R5: caches have nothing in common.
func TestCachesApart(t *testing.T) {
	a, b := made(t, 4), made(t, 4)
	a.Add(5)
	expectFind(t, b, 5, 0, false)
	expectPlaces(t, b, make([]uint32, 16))
	b.Add(8)
	expectFind(t, a, 8, 0, false)
	expectFind(t, a, 5, 9, true)
	expectPlaces(t, made(t, 4), make([]uint32, 16))
}

// P10.1: asking changes nothing.
func TestAskedAgain(t *testing.T) {
	c := made(t, 4)
	c.Add(5)
	for range 3 {
		expectFind(t, c, 5, 9, true)
		expectFind(t, c, 7, 0, false)
		expectGet(t, c, 9, 5, true)
		expectGet(t, c, 13, 0, true)
		expectGet(t, c, 16, 0, false)
		expectSlot(t, 7, 4, 13)
	}
}
