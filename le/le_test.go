package le_test

import (
	"bytes"
	"math"
	"math/big"
	"testing"

	"marquetry/api"
	"marquetry/le"
)

// Ends and odd places that every number argument is tried at.
var ends = []int{math.MinInt, math.MinInt + 1, -1 << 32, -9, -8, -1, 0, 1, 7, 8, 9, 63, 64, 65, 255, 256,
	1 << 31, 1 << 32, math.MaxInt - 8, math.MaxInt - 1, math.MaxInt}

func TestGetOrdinary(t *testing.T) {
	b := []byte{0x34, 0x12, 0xff, 0x00, 0x80, 0x01, 0x02, 0x03, 0xfe, 0x7f}
	cases := []struct {
		at, n int
		want  uint64
	}{
		{0, 2, 0x1234},
		{0, 1, 0x34},
		{2, 1, 0xff},
		{3, 1, 0},
		{0, 3, 0xff1234},
		{0, 4, 0x00ff1234},
		{0, 5, 0x8000ff1234},
		{0, 6, 0x018000ff1234},
		{0, 7, 0x02018000ff1234},
		{0, 8, 0x0302018000ff1234},
		{2, 8, 0x7ffe0302018000ff},
		{9, 1, 0x7f},
		{8, 2, 0x7ffe},
	}
	for _, c := range cases {
		if v, ok := le.Get(b, c.at, c.n); !ok || v != c.want {
			t.Errorf("Get(b, %d, %d) = %x, %v; want %x", c.at, c.n, v, ok, c.want)
		}
	}
	full := bytes.Repeat([]byte{0xff}, 8)
	if v, ok := le.Get(full, 0, 8); !ok || v != math.MaxUint64 {
		t.Errorf("Get of eight ff = %x, %v", v, ok)
	}
}

func TestGetOfZeroIsTrue(t *testing.T) {
	for n := 1; n <= 8; n++ {
		if v, ok := le.Get(make([]byte, n), 0, n); !ok || v != 0 {
			t.Errorf("Get of %d zero bytes = %x, %v", n, v, ok)
		}
	}
}

// Each place and width about a list's ends: true just where all bytes are there.
func TestGetAtTheEnds(t *testing.T) {
	for size := 0; size <= 10; size++ {
		b := bytes.Repeat([]byte{1}, size)
		for at := -10; at <= size+10; at++ {
			for n := -2; n <= 11; n++ {
				want := n >= 1 && n <= 8 && at >= 0 && at+n <= size
				v, ok := le.Get(b, at, n)
				if ok != want {
					t.Errorf("Get of %d bytes at %d, %d: %v", size, at, n, ok)
				}
				if !ok && v != 0 {
					t.Errorf("Get of %d bytes at %d, %d: %x beside false", size, at, n, v)
				}
			}
		}
	}
}

func TestGetOfAnyNumbers(t *testing.T) {
	b := []byte{1, 2, 3, 4, 5, 6, 7, 8, 9}
	for _, list := range [][]byte{nil, {}, b} {
		for _, at := range ends {
			for _, n := range ends {
				want := n >= 1 && n <= 8 && at >= 0 && at <= len(list) && n <= len(list)-at
				if v, ok := le.Get(list, at, n); ok != want || !ok && v != 0 {
					t.Errorf("Get of %d bytes at %d, %d = %x, %v", len(list), at, n, v, ok)
				}
			}
		}
	}
}

// Bytes in a list's spare room are not there.
func TestGetNeverReadsSpareRoom(t *testing.T) {
	room := []byte{1, 2, 3, 4, 5, 6, 7, 8}
	if v, ok := le.Get(room[:3], 2, 2); ok || v != 0 {
		t.Errorf("Get read spare room: %x, %v", v, ok)
	}
	if v, ok := le.Get(room[:0], 0, 1); ok || v != 0 {
		t.Errorf("Get read spare room: %x, %v", v, ok)
	}
}

func TestGetChangesNothing(t *testing.T) {
	room := []byte{1, 2, 3, 4, 5, 6, 7, 8, 9, 10}
	before := bytes.Clone(room)
	for n := 0; n <= 9; n++ {
		le.Get(room[:8], 0, n)
	}
	if !bytes.Equal(room, before) {
		t.Errorf("Get changed its bytes: % x", room)
	}
}

func TestPutOrdinary(t *testing.T) {
	cases := []struct {
		v    uint64
		n    int
		want []byte
	}{
		{0x1234, 2, []byte{0x34, 0x12}},
		{0, 1, []byte{0}},
		{0, 8, []byte{0, 0, 0, 0, 0, 0, 0, 0}},
		{7, 4, []byte{7, 0, 0, 0}},
		{0xabcdef, 3, []byte{0xef, 0xcd, 0xab}},
		{0x0102030405, 5, []byte{5, 4, 3, 2, 1}},
		{0x010203040506, 6, []byte{6, 5, 4, 3, 2, 1}},
		{0x01020304050607, 7, []byte{7, 6, 5, 4, 3, 2, 1}},
		{0x0102030405060708, 8, []byte{8, 7, 6, 5, 4, 3, 2, 1}},
		{math.MaxUint64, 8, bytes.Repeat([]byte{0xff}, 8)},
	}
	for _, c := range cases {
		if b, ok := le.Put(c.v, c.n); !ok || !bytes.Equal(b, c.want) {
			t.Errorf("Put(%x, %d) = % x, %v; want % x", c.v, c.n, b, ok, c.want)
		}
	}
}

// The greatest number of each width goes, the next one does not.
func TestPutAtTheEnds(t *testing.T) {
	for n := 1; n <= 7; n++ {
		most := uint64(1)<<(8*n) - 1
		if b, ok := le.Put(most, n); !ok || !bytes.Equal(b, bytes.Repeat([]byte{0xff}, n)) {
			t.Errorf("Put(%x, %d) = % x, %v", most, n, b, ok)
		}
		for _, v := range []uint64{most + 1, most + 2, 1 << 63, math.MaxUint64} {
			if b, ok := le.Put(v, n); ok || len(b) != 0 {
				t.Errorf("Put(%x, %d) = % x, %v", v, n, b, ok)
			}
		}
	}
}

func TestPutOfAnyWidth(t *testing.T) {
	for _, n := range ends {
		for _, v := range []uint64{0, 1, 255, math.MaxUint64} {
			want := n == 8 || n >= 1 && n <= 8 && v <= 255
			if b, ok := le.Put(v, n); ok != want || !ok && len(b) != 0 || ok && len(b) != n {
				t.Errorf("Put(%x, %d) = % x, %v", v, n, b, ok)
			}
		}
	}
}

func TestPutAnswersNewMemory(t *testing.T) {
	first, _ := le.Put(0x1234, 2)
	second, _ := le.Put(0x1234, 2)
	first[0], first[1] = 0xee, 0xee
	third, _ := le.Put(0x1234, 2)
	want := []byte{0x34, 0x12}
	if !bytes.Equal(second, want) || !bytes.Equal(third, want) {
		t.Errorf("answers share memory: % x, % x", second, third)
	}
}

func TestPutIsReadByGet(t *testing.T) {
	for n := 1; n <= 8; n++ {
		for shift := 0; shift < 8*n; shift++ {
			v := uint64(0xc3a55a3c96690ff1) >> (64 - 8*n) >> shift
			b, ok := le.Put(v, n)
			if !ok {
				t.Fatalf("Put(%x, %d) refused", v, n)
			}
			if got, ok := le.Get(b, 0, n); !ok || got != v {
				t.Errorf("Get of Put(%x, %d) = %x, %v", v, n, got, ok)
			}
		}
	}
}

func TestProductOrdinary(t *testing.T) {
	cases := []struct{ a, b, most, want int }{
		{3, 4, 100, 12},
		{3, 4, 12, 12},
		{1, 1, 1, 1},
		{0, 0, 0, 0},
		{0, 5, 0, 0},
		{5, 0, 0, 0},
		{0, math.MaxInt, 0, 0},
		{math.MaxInt, 0, 0, 0},
		{api.MaxSide, api.MaxSide, api.MaxCells, api.MaxCells},
		{1, math.MaxInt, math.MaxInt, math.MaxInt},
		{math.MaxInt, 1, math.MaxInt, math.MaxInt},
	}
	for _, c := range cases {
		if p, ok := le.Product(c.a, c.b, c.most); !ok || p != c.want {
			t.Errorf("Product(%d, %d, %d) = %d, %v; want %d", c.a, c.b, c.most, p, ok, c.want)
		}
	}
}

func TestProductRefused(t *testing.T) {
	cases := []struct{ a, b, most int }{
		{3, 4, 11},
		{api.MaxSide, api.MaxSide, api.MaxCells - 1},
		{api.MaxSide + 1, api.MaxSide, api.MaxCells},
		{-1, 4, 100},
		{4, -1, 100},
		{-1, 0, 100},
		{0, -1, 100},
		{-2, -3, 100},
		{math.MinInt, -1, math.MaxInt},
		{math.MinInt, math.MinInt, math.MaxInt},
		{0, 0, -1},
		{0, 5, math.MinInt},
		{1, 1, 0},
		{1 << 32, 1 << 32, math.MaxInt},
		{1 << 62, 4, 1 << 62},
		{1 << 62, 2, math.MaxInt},
		{math.MaxInt, math.MaxInt, math.MaxInt},
		{math.MaxInt, 2, math.MaxInt},
		{2, math.MaxInt, math.MaxInt},
	}
	for _, c := range cases {
		if p, ok := le.Product(c.a, c.b, c.most); ok || p != 0 {
			t.Errorf("Product(%d, %d, %d) = %d, %v", c.a, c.b, c.most, p, ok)
		}
	}
}

func TestProductOfAnyNumbers(t *testing.T) {
	numbers := append([]int{2, 3, 11, 12, 13, 1 << 30, 3037000499, 3037000500, 1 << 62}, ends...)
	for _, a := range numbers {
		for _, b := range numbers {
			exact := new(big.Int).Mul(big.NewInt(int64(a)), big.NewInt(int64(b)))
			bounds := numbers
			if exact.IsInt64() {
				p := int(exact.Int64())
				bounds = append([]int{p - 1, p, p + 1}, numbers...)
			}
			for _, most := range bounds {
				want := a >= 0 && b >= 0 && exact.Cmp(big.NewInt(int64(most))) <= 0
				p, ok := le.Product(a, b, most)
				if ok != want || ok && int64(p) != exact.Int64() || !ok && p != 0 {
					t.Fatalf("Product(%d, %d, %d) = %d, %v", a, b, most, p, ok)
				}
			}
		}
	}
}

func TestBlocksOrdinary(t *testing.T) {
	cases := []struct{ n, bits, want int }{
		{9, 2, 3},
		{8, 2, 2},
		{8, 3, 1},
		{7, 3, 1},
		{1, 3, 1},
		{9, 3, 2},
		{0, 0, 0},
		{0, 5, 0},
		{0, 30, 0},
		{5, 0, 5},
		{api.MaxCanvas, 0, api.MaxCanvas},
		{api.MaxCanvas - 1, 0, api.MaxCanvas - 1},
		{api.MaxCanvas, 1, 1 << 23},
		{api.MaxCanvas - 1, 1, 1 << 23},
		{api.MaxCanvas, 23, 2},
		{api.MaxCanvas, 24, 1},
		{api.MaxCanvas, 30, 1},
		{1, 30, 1},
	}
	for _, c := range cases {
		if got := le.Blocks(c.n, c.bits); got != c.want {
			t.Errorf("Blocks(%d, %d) = %d; want %d", c.n, c.bits, got, c.want)
		}
	}
}

func TestBlocksRefused(t *testing.T) {
	cases := []struct{ n, bits int }{
		{-1, 0}, {-1, 2}, {-9, 3}, {math.MinInt, 0}, {math.MinInt, 30},
		{api.MaxCanvas + 1, 0}, {api.MaxCanvas + 1, 24}, {api.MaxCanvas + 1, 30}, {math.MaxInt, 0}, {math.MaxInt, 30},
		{8, -1}, {8, math.MinInt}, {8, 31}, {8, 32}, {8, 63}, {8, 64}, {8, math.MaxInt},
		{api.MaxCanvas, 31}, {api.MaxCanvas, -1}, {-1, -1}, {math.MaxInt, math.MaxInt},
	}
	for _, c := range cases {
		if got := le.Blocks(c.n, c.bits); got != 0 {
			t.Errorf("Blocks(%d, %d) = %d; want 0", c.n, c.bits, got)
		}
	}
}

// About each power of two: so many blocks that they reach n, and one less would not.
func TestBlocksCoverJust(t *testing.T) {
	for bits := 0; bits <= 30; bits++ {
		side := 1 << bits
		for power := 0; power <= 24; power++ {
			for n := 1<<power - 2; n <= 1<<power+2; n++ {
				if n < 1 || n > api.MaxCanvas {
					continue
				}
				if got := le.Blocks(n, bits); got*side < n || (got-1)*side >= n {
					t.Errorf("Blocks(%d, %d) = %d", n, bits, got)
				}
			}
		}
	}
}
