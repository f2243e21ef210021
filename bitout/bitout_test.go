package bitout_test

import (
	"bytes"
	"math"
	"testing"

	"marquetry/api"
	"marquetry/bitin"
	"marquetry/bitout"
)

// Numbers of bits that may not be put.
var wrong = []int{math.MinInt, math.MinInt + 1, math.MinInt32, -1 << 32, -33, -32, -8, -1,
	33, 34, 63, 64, 65, 255, 256, 1 << 31, 1 << 32, 1<<32 + 1, math.MaxInt - 1, math.MaxInt}

// Numbers in which no two look alike, by a fixed rule.
func sample(n int) []uint32 {
	all := make([]uint32, n)
	x := uint32(12345)
	for i := range all {
		x = x*1664525 + 1013904223
		all[i] = x ^ x>>15
	}
	return all
}

// The lowest n bits of v.
func lowest(v uint32, n int) uint32 {
	return uint32(uint64(v) & (1<<n - 1))
}

// Bits that are told one by one: what a writer is held against.
type model []uint32

func (m *model) put(v uint32, n int) {
	for i := 0; i < n; i++ {
		*m = append(*m, v>>i&1)
	}
}

func (m model) bytes() []byte {
	b := make([]byte, (len(m)+7)/8)
	for i, bit := range m {
		b[i/8] |= byte(bit << (i % 8))
	}
	return b
}

func put(t *testing.T, w *bitout.Writer, v uint32, n int) {
	t.Helper()
	if !w.Bits(v, n) {
		t.Errorf("Bits(%x, %d) was refused", v, n)
	}
}

func refuse(t *testing.T, w *bitout.Writer, v uint32, n int) {
	t.Helper()
	if w.Bits(v, n) {
		t.Errorf("Bits(%x, %d) was taken", v, n)
	}
}

func expect(t *testing.T, w *bitout.Writer, length int, want ...byte) {
	t.Helper()
	if b := w.Bytes(); w.Len() != length || !bytes.Equal(b, want) {
		t.Errorf("Len, Bytes = %d, % x; want %d, % x", w.Len(), b, length, want)
	}
}

// A writer of the first n bits of a sample, and the same as a model.
func filled(t *testing.T, n int) (*bitout.Writer, model) {
	t.Helper()
	w, m := bitout.New(), model{}
	for i, v := range sample(n) {
		put(t, w, v&1, 1)
		m.put(v, 1)
		if w.Len() != i+1 {
			t.Fatalf("Len = %d; want %d", w.Len(), i+1)
		}
	}
	return w, m
}

func TestTheChaptersExample(t *testing.T) {
	w := bitout.New()
	put(t, w, 1, 1)
	put(t, w, 2, 2)
	expect(t, w, 3, 0x05)
}

func TestNew(t *testing.T) {
	w := bitout.New()
	if w == nil {
		t.Fatal("New answers nil")
	}
	expect(t, w, 0)
}

func TestOrdinary(t *testing.T) {
	w := bitout.New()
	put(t, w, 0x2, 4)
	expect(t, w, 4, 0x02)
	put(t, w, 0x41, 8)
	expect(t, w, 12, 0x12, 0x04)
	put(t, w, 0x3, 4)
	expect(t, w, 16, 0x12, 0x34)
	put(t, w, 0x7856, 16)
	expect(t, w, 32, 0x12, 0x34, 0x56, 0x78)
	put(t, w, 0xc9a, 12)
	expect(t, w, 44, 0x12, 0x34, 0x56, 0x78, 0x9a, 0x0c)
	put(t, w, 0xf0deb, 20)
	expect(t, w, 64, 0x12, 0x34, 0x56, 0x78, 0x9a, 0xbc, 0xde, 0xf0)
}

// Each width at each place within a byte, with a bit behind it.
func TestEachWidthAtEachPlace(t *testing.T) {
	numbers := sample(33)
	for at := 0; at <= 16; at++ {
		for n := 0; n <= 32; n++ {
			for _, v := range []uint32{0, math.MaxUint32, numbers[n]} {
				w, m := filled(t, at)
				put(t, w, lowest(v, n), n)
				m.put(v, n)
				expect(t, w, len(m), m.bytes()...)
				put(t, w, 1, 1)
				m.put(1, 1)
				expect(t, w, len(m), m.bytes()...)
			}
		}
	}
}

func TestFullWidth(t *testing.T) {
	w := bitout.New()
	put(t, w, math.MaxUint32, 32)
	put(t, w, 0x80000001, 32)
	put(t, w, 0, 32)
	expect(t, w, 96, 0xff, 0xff, 0xff, 0xff, 0x01, 0, 0, 0x80, 0, 0, 0, 0)
}

func TestFullWidthAcrossFiveBytes(t *testing.T) {
	for skip := 1; skip <= 7; skip++ {
		w := bitout.New()
		put(t, w, 0, skip)
		put(t, w, math.MaxUint32, 32)
		expect(t, w, skip+32, byte(0xff<<skip), 0xff, 0xff, 0xff, byte(0xff>>(8-skip)))
	}
}

func TestNoBits(t *testing.T) {
	w := bitout.New()
	put(t, w, 0, 0)
	expect(t, w, 0)
	for i := 1; i <= 17; i++ {
		put(t, w, 1, 1)
		put(t, w, 0, 0)
		if w.Len() != i || len(w.Bytes()) != (i+7)/8 {
			t.Errorf("behind %d bits and none: %d, % x", i, w.Len(), w.Bytes())
		}
	}
}

// Of bits that are all 1, the 0 of the last byte are those that fill it up.
func TestLastByteIsFilledUp(t *testing.T) {
	w := bitout.New()
	for i := 1; i <= 40; i++ {
		put(t, w, 1, 1)
		b := w.Bytes()
		last := byte(0xff >> ((8 - i%8) % 8))
		if len(b) != (i+7)/8 || b[len(b)-1] != last {
			t.Errorf("%d bits: % x; want the last byte %x", i, b, last)
		}
	}
}

// What fills up the last byte is not put: bits come behind those that were.
func TestBytesPutsNothing(t *testing.T) {
	w := bitout.New()
	put(t, w, 5, 3)
	expect(t, w, 3, 0x05)
	expect(t, w, 3, 0x05)
	put(t, w, 0x1f, 5)
	expect(t, w, 8, 0xfd)
	put(t, w, 1, 1)
	expect(t, w, 9, 0xfd, 0x01)
}

func TestWrongWidthsPutNothing(t *testing.T) {
	for length := 0; length <= 17; length++ {
		w, m := filled(t, length)
		for _, n := range wrong {
			for _, v := range []uint32{0, 1, math.MaxUint32} {
				refuse(t, w, v, n)
			}
		}
		expect(t, w, length, m.bytes()...)
		put(t, w, 3, 2)
		m.put(3, 2)
		expect(t, w, length+2, m.bytes()...)
	}
}

// The greatest number of each width goes, the next one does not.
func TestNumbersThatHaveMoreBits(t *testing.T) {
	for n := 0; n <= 31; n++ {
		most := uint32(1)<<n - 1
		w := bitout.New()
		for _, v := range []uint32{most + 1, most + 2, 1 << 31, math.MaxUint32} {
			refuse(t, w, v, n)
		}
		expect(t, w, 0)
		put(t, w, 1, 1)
		for _, v := range []uint32{most + 1, 1 << 31, math.MaxUint32} {
			refuse(t, w, v, n)
		}
		expect(t, w, 1, 0x01)
		put(t, w, most, n)
		m := model{1}
		m.put(most, n)
		expect(t, w, n+1, m.bytes()...)
	}
}

// Writers of each two lengths, with bits that come behind.
func TestJoin(t *testing.T) {
	for first := 0; first <= 26; first++ {
		for second := 0; second <= 26; second++ {
			w, m := filled(t, first)
			o := bitout.New()
			behind := model{}
			for _, v := range sample(64)[64-second:] {
				put(t, o, v>>7&1, 1)
				behind.put(v>>7, 1)
			}
			w.Join(o)
			m = append(m, behind...)
			expect(t, w, first+second, m.bytes()...)
			expect(t, o, second, behind.bytes()...)
			put(t, w, 0x2d, 6)
			m.put(0x2d, 6)
			expect(t, w, first+second+6, m.bytes()...)
			expect(t, o, second, behind.bytes()...)
		}
	}
}

// A writer that is joined to itself: its bits are there twice, as they were.
func TestJoinToItself(t *testing.T) {
	for length := 0; length <= 80; length++ {
		w, m := filled(t, length)
		for range 4 {
			w.Join(w)
			m = append(m, m...)
			expect(t, w, len(m), m.bytes()...)
		}
		put(t, w, 5, 3)
		m.put(5, 3)
		expect(t, w, len(m), m.bytes()...)
	}
}

// What is put to one of two that were joined is not put to the other.
func TestJoinedAreApart(t *testing.T) {
	for first := 0; first <= 9; first++ {
		w, m := filled(t, first)
		o, behind := filled(t, 19)
		w.Join(o)
		m = append(m, behind...)
		put(t, o, 0x1fff, 13)
		behind.put(0x1fff, 13)
		expect(t, w, len(m), m.bytes()...)
		put(t, w, 0x55, 8)
		m.put(0x55, 8)
		expect(t, o, len(behind), behind.bytes()...)
		expect(t, w, len(m), m.bytes()...)
		w.Join(o)
		w.Join(o)
		m = append(append(m, behind...), behind...)
		expect(t, w, len(m), m.bytes()...)
		expect(t, o, len(behind), behind.bytes()...)
	}
}

func TestNilWriter(t *testing.T) {
	var w *bitout.Writer
	for n := 0; n <= 32; n++ {
		refuse(t, w, 0, n)
		refuse(t, w, lowest(math.MaxUint32, n), n)
	}
	for _, n := range wrong {
		refuse(t, w, 0, n)
	}
	expect(t, w, 0)
}

func TestNilWritersAreJoined(t *testing.T) {
	var none *bitout.Writer
	for length := 0; length <= 17; length++ {
		w, m := filled(t, length)
		w.Join(none)
		expect(t, w, length, m.bytes()...)
		none.Join(w)
		expect(t, w, length, m.bytes()...)
		put(t, w, 1, 1)
		m.put(1, 1)
		expect(t, w, length+1, m.bytes()...)
	}
	none.Join(none)
	none.Join(nil)
	expect(t, none, 0)
}

// A writer that New did not make has no bits, and takes them.
func TestWriterThatNewDidNotMake(t *testing.T) {
	w := &bitout.Writer{}
	expect(t, w, 0)
	put(t, w, 5, 4)
	w.Join(&bitout.Writer{})
	expect(t, w, 4, 0x05)
	w.Join(w)
	expect(t, w, 8, 0x55)
}

func TestBytesAreNewMemory(t *testing.T) {
	for length := 1; length <= 40; length++ {
		w, m := filled(t, length)
		first, second := w.Bytes(), w.Bytes()
		for i := range first[:cap(first)] {
			first[:cap(first)][i] ^= 0xff
		}
		if !bytes.Equal(second, m.bytes()) {
			t.Errorf("two answers share memory: % x", second)
		}
		expect(t, w, length, m.bytes()...)
		put(t, w, 0x5a5a5a, 24)
		m.put(0x5a5a5a, 24)
		expect(t, w, length+24, m.bytes()...)
	}
}

// An answer stays as it is while more is put.
func TestBytesAreNotKept(t *testing.T) {
	w, m := filled(t, 21)
	was := w.Bytes()
	put(t, w, math.MaxUint32, 32)
	w.Join(w)
	if !bytes.Equal(was, m.bytes()) {
		t.Errorf("an answer was changed: % x; want % x", was, m.bytes())
	}
}

func TestWritersAreApart(t *testing.T) {
	one, two := bitout.New(), bitout.New()
	put(t, one, 0x3ff, 10)
	put(t, two, 0x15, 7)
	put(t, one, 0, 2)
	expect(t, one, 12, 0xff, 0x03)
	expect(t, two, 7, 0x15)
}

// Many widths one after the other, wrong ones and none among them, read again by a reader.
func TestIsReadAgain(t *testing.T) {
	w, m := bitout.New(), model{}
	numbers := sample(4096)
	for i, v := range numbers {
		n := i * 7 % 35
		if n > 32 {
			refuse(t, w, v, n)
			continue
		}
		put(t, w, lowest(v, n), n)
		m.put(v, n)
	}
	expect(t, w, len(m), m.bytes()...)
	r := bitin.New(w.Bytes())
	for i, v := range numbers {
		n := i * 7 % 35
		if n > 32 {
			continue
		}
		if got, e := r.Bits(n); got != lowest(v, n) || e != api.OK {
			t.Fatalf("number %d, %d bits: %x, %d; want %x", i, n, got, e, lowest(v, n))
		}
	}
	fill := r.Left()
	if v, e := r.Bits(fill); fill > 7 || v != 0 || e != api.OK {
		t.Errorf("behind the last number: %d bits, %x, %d", fill, v, e)
	}
}
