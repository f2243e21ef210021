package bittext_test

import (
	"slices"
	"strings"
	"testing"

	"marquetry/api"
	"marquetry/internal/bittext"
)

func TestNumbers(t *testing.T) {
	for _, c := range []struct {
		v, n int
		want string
	}{{0, 0, ""}, {5, 3, "101"}, {6, 3, "011"}, {6, 5, "01100"}, {0x80, 8, "00000001"}, {1, 1, "1"}} {
		if got := bittext.Number(c.v, c.n); got != c.want {
			t.Errorf("Number(%d, %d) = %s; want %s", c.v, c.n, got, c.want)
		}
	}
}

func TestBytes(t *testing.T) {
	for bits, want := range map[string][]byte{"": {}, "1": {1}, "01": {2}, "00000001": {0x80}, "101000001": {5, 1}} {
		if got := bittext.Bytes(bits); !slices.Equal(got, want) {
			t.Errorf("Bytes(%s) = % x; want % x", bits, got, want)
		}
	}
}

// What is written is read, and told, bit by bit.
func TestReadersAndWriters(t *testing.T) {
	for n := range 20 {
		bits := strings.Repeat("0110100", 3)[:n]
		w, r := bittext.Writer(bits), bittext.Reader(bits)
		if got := bittext.Of(w); got != bits || w.Len() != n {
			t.Errorf("Of = %s; want %s", got, bits)
		}
		if r.Left() != n || r.Over() {
			t.Errorf("%d bits left of %s", r.Left(), bits)
		}
		for i := range n {
			if v, e := r.Bits(1); e != api.OK || byte('0'+v) != bits[i] {
				t.Errorf("bit %d of %s: %d, %d", i, bits, v, e)
			}
		}
	}
	if !bittext.OverReader().Over() {
		t.Error("OverReader is not over")
	}
}

func TestCodes(t *testing.T) {
	for _, c := range []struct {
		lens []int
		want string
	}{
		{[]int{2, 1, 2}, "10 0 11"},
		{[]int{0, 2, 0, 0, 1, 2, 0}, "- 10 - - 0 11 -"},
		{[]int{3, 3, 3, 3, 3, 2, 4, 4}, "010 011 100 101 110 00 1110 1111"},
	} {
		if got := strings.Join(bittext.Codes(c.lens), " "); got != c.want {
			t.Errorf("Codes(%v) = %s; want %s", c.lens, got, c.want)
		}
	}
	if got := bittext.Codes([]int{0, 7}); !slices.Equal(got, []string{bittext.None, ""}) {
		t.Errorf("Codes of one = %q", got)
	}
}

func TestEven(t *testing.T) {
	for n, want := range map[int][]int{1: {0}, 2: {1, 1}, 3: {1, 2, 2}, 4: {2, 2, 2, 2}, 5: {2, 2, 2, 3, 3}, 7: {2, 3, 3, 3, 3, 3, 3}} {
		if got := bittext.Even(n); !slices.Equal(got, want) {
			t.Errorf("Even(%d) = %v; want %v", n, got, want)
		}
	}
}
