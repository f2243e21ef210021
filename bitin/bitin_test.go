package bitin_test

import (
	"bytes"
	"math"
	"testing"

	"marquetry/api"
	"marquetry/bitin"
)

// Numbers of bits that may not be asked for.
var wrong = []int{math.MinInt, math.MinInt + 1, math.MinInt32, -1 << 32, -33, -32, -8, -1,
	33, 34, 63, 64, 65, 255, 256, 1 << 31, 1 << 32, 1<<32 + 1, math.MaxInt - 1, math.MaxInt}

// Bytes in which no two places look alike, by a fixed rule.
func sample(n int) []byte {
	b := make([]byte, n)
	x := uint32(12345)
	for i := range b {
		x = x*1664525 + 1013904223
		b[i] = byte(x >> 24)
	}
	return b
}

// The bits of b one by one, of each byte the lowest first.
func bitsOf(b []byte) []uint32 {
	var all []uint32
	for _, v := range b {
		for i := 0; i < 8; i++ {
			all = append(all, uint32(v>>i)&1)
		}
	}
	return all
}

// The number of some bits, the first one lowest.
func number(bits []uint32) uint32 {
	v := uint32(0)
	for i, bit := range bits {
		v += bit << i
	}
	return v
}

func expect(t *testing.T, r *bitin.Reader, n int, want uint32, wantErr api.Errno) {
	t.Helper()
	if v, e := r.Bits(n); v != want || e != wantErr {
		t.Errorf("Bits(%d) = %x, %d; want %x, %d", n, v, e, want, wantErr)
	}
}

func expectState(t *testing.T, r *bitin.Reader, left int, over bool) {
	t.Helper()
	if r.Left() != left || r.Over() != over {
		t.Errorf("Left, Over = %d, %v; want %d, %v", r.Left(), r.Over(), left, over)
	}
}

func TestTheChaptersExample(t *testing.T) {
	r := bitin.New([]byte{0x05})
	expect(t, r, 1, 1, api.OK)
	expect(t, r, 2, 2, api.OK)
	expectState(t, r, 5, false)
}

func TestOrdinary(t *testing.T) {
	r := bitin.New([]byte{0x12, 0x34, 0x56, 0x78, 0x9a, 0xbc, 0xde, 0xf0})
	steps := []struct {
		n    int
		want uint32
	}{
		{4, 0x2}, {8, 0x41}, {4, 0x3}, {16, 0x7856}, {0, 0}, {12, 0xc9a}, {20, 0xf0deb},
	}
	left := 64
	for _, s := range steps {
		expect(t, r, s.n, s.want, api.OK)
		left -= s.n
		expectState(t, r, left, false)
	}
}

// Each width at each place within a byte, also with nothing behind it.
func TestEachWidthAtEachPlace(t *testing.T) {
	b := sample(12)
	all := bitsOf(b)
	for at := 0; at <= 64; at++ {
		for n := 0; n <= 32; n++ {
			r := bitin.New(b)
			for range at {
				r.Bits(1)
			}
			expect(t, r, n, number(all[at:at+n]), api.OK)
			expectState(t, r, len(all)-at-n, false)
			if next := at + n; next < len(all) {
				expect(t, r, 1, all[next], api.OK)
			}
		}
	}
}

// Bits of one width alone, to the end and one step behind it.
func TestEachWidthToTheEnd(t *testing.T) {
	for size := 0; size <= 9; size++ {
		b := sample(size)
		all := bitsOf(b)
		for n := 1; n <= 32; n++ {
			r := bitin.New(b)
			at := 0
			for ; at+n <= len(all); at += n {
				expect(t, r, n, number(all[at:at+n]), api.OK)
				expectState(t, r, len(all)-at-n, false)
			}
			expect(t, r, n, 0, api.ErrEnd)
			expectState(t, r, 0, true)
		}
	}
}

func TestFullWidth(t *testing.T) {
	r := bitin.New([]byte{0xff, 0xff, 0xff, 0xff, 0x01, 0x00, 0x00, 0x80})
	expect(t, r, 32, math.MaxUint32, api.OK)
	expect(t, r, 32, 0x80000001, api.OK)
	expectState(t, r, 0, false)
}

func TestFullWidthAcrossFiveBytes(t *testing.T) {
	for skip := 1; skip <= 7; skip++ {
		r := bitin.New([]byte{0xff, 0xff, 0xff, 0xff, 0xff})
		expect(t, r, skip, 1<<skip-1, api.OK)
		expect(t, r, 32, math.MaxUint32, api.OK)
		expectState(t, r, 8-skip, false)
	}
}

func TestNoBits(t *testing.T) {
	r := bitin.New([]byte{0xff})
	for i := 8; i >= 1; i-- {
		expect(t, r, 0, 0, api.OK)
		expectState(t, r, i, false)
		expect(t, r, 1, 1, api.OK)
	}
	expect(t, r, 0, 0, api.OK)
	expectState(t, r, 0, false)
}

func TestReadToTheEndIsNotOver(t *testing.T) {
	r := bitin.New([]byte{0xaa, 0x55, 0xc3})
	expect(t, r, 24, 0xc355aa, api.OK)
	expectState(t, r, 0, false)
	expect(t, r, 0, 0, api.OK)
	expectState(t, r, 0, false)
	expect(t, r, 1, 0, api.ErrEnd)
	expectState(t, r, 0, true)
}

// Once one bit too many was asked for, fewer are not answered either, though they were there.
func TestBehindTheEnd(t *testing.T) {
	for read := 0; read <= 16; read++ {
		for n := 16 - read + 1; n <= 32; n++ {
			r := bitin.New([]byte{0xff, 0xff})
			expect(t, r, read, 1<<read-1, api.OK)
			expectState(t, r, 16-read, false)
			expect(t, r, n, 0, api.ErrEnd)
			for again := 1; again <= 32; again++ {
				expectState(t, r, 0, true)
				expect(t, r, again, 0, api.ErrEnd)
				expect(t, r, 0, 0, api.OK)
				expect(t, r, -1, 0, api.ErrArg)
				expect(t, r, 33, 0, api.ErrArg)
			}
			expectState(t, r, 0, true)
		}
	}
}

func TestWrongWidthsChangeNothing(t *testing.T) {
	r := bitin.New([]byte{0xa5, 0x0f})
	for _, n := range wrong {
		expect(t, r, n, 0, api.ErrArg)
		expectState(t, r, 16, false)
	}
	expect(t, r, 3, 5, api.OK)
	for _, n := range wrong {
		expect(t, r, n, 0, api.ErrArg)
		expectState(t, r, 13, false)
	}
	expect(t, r, 13, 0x1f4, api.OK)
	for _, n := range wrong {
		expect(t, r, n, 0, api.ErrArg)
		expectState(t, r, 0, false)
	}
	expect(t, r, 32, 0, api.ErrEnd)
	for _, n := range wrong {
		expect(t, r, n, 0, api.ErrArg)
		expectState(t, r, 0, true)
	}
}

// A nil list, an empty one, one with spare room that holds bits, and a reader that New did not make: no bits, but not over till one is asked for.
func TestNoBytes(t *testing.T) {
	spare := []byte{0xff, 0xff, 0xff, 0xff}
	for i, r := range []*bitin.Reader{bitin.New(nil), bitin.New([]byte{}), bitin.New(spare[:0]), {}} {
		if r == nil {
			t.Fatalf("reader %d is nil", i)
		}
		expectState(t, r, 0, false)
		expect(t, r, 0, 0, api.OK)
		expect(t, r, 33, 0, api.ErrArg)
		expectState(t, r, 0, false)
		expect(t, r, 1, 0, api.ErrEnd)
		expectState(t, r, 0, true)
		expect(t, r, 0, 0, api.OK)
		expect(t, r, 33, 0, api.ErrArg)
	}
}

func TestNilReader(t *testing.T) {
	var r *bitin.Reader
	for n := 0; n <= 32; n++ {
		expect(t, r, n, 0, api.ErrEnd)
	}
	for _, n := range wrong {
		expect(t, r, n, 0, api.ErrEnd)
	}
	expectState(t, r, 0, true)
}

func TestSpareRoomIsNotRead(t *testing.T) {
	b := []byte{0x81, 0xff, 0xff, 0xff, 0xff}
	r := bitin.New(b[:1])
	expectState(t, r, 8, false)
	expect(t, r, 7, 1, api.OK)
	expect(t, r, 2, 0, api.ErrEnd)
}

func TestBytesAreNotKept(t *testing.T) {
	b := sample(8)
	all := bitsOf(b)
	r := bitin.New(b)
	expect(t, r, 5, number(all[:5]), api.OK)
	clear(b)
	expect(t, r, 32, number(all[5:37]), api.OK)
	expect(t, r, 27, number(all[37:]), api.OK)
}

func TestBytesAreNotChanged(t *testing.T) {
	b := sample(16)
	was := bytes.Clone(b)
	r := bitin.New(b[:8])
	for range 11 {
		r.Bits(7)
	}
	r.Bits(-1)
	if !r.Over() || !bytes.Equal(b, was) {
		t.Errorf("Over %v, bytes %x, were %x", r.Over(), b, was)
	}
}

func TestReadersAreApart(t *testing.T) {
	b := sample(8)
	all := bitsOf(b)
	one, two := bitin.New(b), bitin.New(b)
	expect(t, one, 20, number(all[:20]), api.OK)
	expect(t, two, 3, number(all[:3]), api.OK)
	expect(t, one, 32, number(all[20:52]), api.OK)
	expect(t, one, 13, 0, api.ErrEnd)
	expectState(t, one, 0, true)
	expectState(t, two, 61, false)
	expect(t, two, 32, number(all[3:35]), api.OK)
}

// Many widths one after the other, wrong ones and none among them, held against bits told one by one.
func TestMixedWidths(t *testing.T) {
	b := sample(4096)
	all := bitsOf(b)
	r := bitin.New(b)
	at := 0
	for i := 0; ; i++ {
		n := i * 7 % 35
		if n > 32 {
			expect(t, r, n, 0, api.ErrArg)
			expectState(t, r, len(all)-at, false)
			continue
		}
		if at+n > len(all) {
			expect(t, r, n, 0, api.ErrEnd)
			expectState(t, r, 0, true)
			return
		}
		expect(t, r, n, number(all[at:at+n]), api.OK)
		at += n
		expectState(t, r, len(all)-at, false)
	}
}
