// Package bittext has bits as texts, '0' and '1', the first bit first. Tests are easier to read by them.
package bittext

import (
	"cmp"
	"slices"
	"strconv"
	"strings"

	"marquetry/bitin"
	"marquetry/bitout"
)

const bitsOfByte = 8

// None stands for the code of a symbol that has none.
const None = "-"

// Number answers v's lowest n bits, the lowest first.
func Number(v, n int) string {
	var b strings.Builder
	for i := range n {
		b.WriteByte(byte('0' + v>>i&1))
	}
	return b.String()
}

// Bytes answers the bytes of these bits, of each byte the lowest one first, the last byte filled up with 0.
func Bytes(bits string) []byte {
	b := make([]byte, (len(bits)+bitsOfByte-1)/bitsOfByte)
	for i := range len(bits) {
		if bits[i] == '1' {
			b[i/bitsOfByte] |= 1 << (i % bitsOfByte)
		}
	}
	return b
}

// Of answers the bits that w has.
func Of(w *bitout.Writer) string {
	var all strings.Builder
	for _, b := range w.Bytes() {
		all.WriteString(Number(int(b), bitsOfByte))
	}
	return all.String()[:w.Len()]
}

// Reader answers a reader of just these bits: with up to 7 ahead of them, that are read already.
func Reader(bits string) *bitin.Reader {
	skip := -len(bits) & (bitsOfByte - 1)
	r := bitin.New(Bytes(strings.Repeat("1", skip) + bits))
	r.Bits(skip)
	return r
}

// OverReader answers a reader of which more bits were asked for than there were.
func OverReader() *bitin.Reader {
	r := bitin.New(nil)
	r.Bits(1)
	return r
}

// Writer answers a writer that has these bits.
func Writer(bits string) *bitout.Writer {
	w := bitout.New()
	for i := range len(bits) {
		w.Bits(uint32(bits[i]-'0'), 1)
	}
	return w
}

// Codes answers the code of each symbol by complete lengths, its highest bit first, or None: what is told by them is held against it.
func Codes(lens []int) []string {
	codes := slices.Repeat([]string{None}, len(lens))
	var symbols []int
	for symbol, length := range lens {
		if length != 0 {
			symbols = append(symbols, symbol)
		}
	}
	if len(symbols) == 1 {
		codes[symbols[0]] = ""
		return codes
	}
	slices.SortStableFunc(symbols, func(a, b int) int { return cmp.Compare(lens[a], lens[b]) })
	next, length := 0, 0
	for _, symbol := range symbols {
		next <<= lens[symbol] - length
		length = lens[symbol]
		code := strconv.FormatInt(int64(next), 2)
		codes[symbol] = strings.Repeat("0", length-len(code)) + code
		next++
	}
	return codes
}

// Even answers complete lengths of n symbols, of which no two are apart by more than 1.
func Even(n int) []int {
	list := make([]int, n)
	length := 0
	for 1<<length < n {
		length++
	}
	shorter := 1<<length - n
	for symbol := range list {
		list[symbol] = length
		if symbol < shorter {
			list[symbol]--
		}
	}
	return list
}
