package crc

import (
	"bytes"
	"hash/crc32"
	"math"
	"slices"
	"strings"
	"testing"
)

// known are texts whose sums are written out: the document's examples, one byte, many bytes alike, and such whose sum is 0 or all ones.
func known() []struct {
	text string
	sum  uint32
} {
	return []struct {
		text string
		sum  uint32
	}{
		{"", 0}, {"123456789", 0xcbf43926},
		{"\x00", 0xd202ef8d}, {"\x01", 0xa505df1b}, {"\x80", 0x3fba6cad}, {"\xff", 0xff000000}, {"a", 0xe8b7be43},
		{"abc", 0x352441c2}, {"The quick brown fox jumps over the lazy dog", 0x414fa339},
		{strings.Repeat("\x00", 32), 0x190a55ad}, {strings.Repeat("\xff", 32), 0xff6cab0b},
		{"\xff\xff\xff\xff", math.MaxUint32}, {"\x9d\x0a\xd9\x6d", 0},
	}
}

// sums are those that a beginning may have: none and all of the bits, each bit alone, and ordinary ones.
func sums() []uint32 {
	l := []uint32{0, math.MaxUint32, 0x12345678, 0xcbf43926, 0xedb88320, 0xd202ef8d, 0x55555555, 0xaaaaaaaa}
	for s := range 32 {
		l = append(l, 1<<s, ^uint32(1<<s))
	}
	return l
}

// rising is n bytes, no two neighbours alike, of all values.
func rising(n int) []byte {
	b := make([]byte, n)
	for i := range b {
		b[i] = byte(i*7 + i/256)
	}
	return b
}

// told is the sum by the document's words, bit by bit, with the register as bits: the lowest first.
func told(b []byte) uint32 {
	var register [32]bool
	for i := range register {
		register[i] = true
	}
	for _, c := range b {
		for i := range 8 {
			register[i] = register[i] != (c>>i&1 == 1)
		}
		for range 8 {
			out := register[0]
			copy(register[:], register[1:])
			register[31] = false
			for i := range register {
				register[i] = register[i] != (out && uint32(0xEDB88320)>>i&1 == 1)
			}
		}
	}
	sum := uint32(0)
	for i, one := range register {
		if !one {
			sum |= 1 << i
		}
	}
	return sum
}

// beginning is four bytes that have the sum: the register's thirty-two turns, gone back.
func beginning(sum uint32) []byte {
	register := ^sum
	for range 32 {
		// The turner's highest bit is a one, and a shift leaves none there: so that bit tells whether a one went out.
		if register>>31 == 1 {
			register = (register^0xEDB88320)<<1 | 1
		} else {
			register <<= 1
		}
	}
	register = ^register
	return []byte{byte(register), byte(register >> 8), byte(register >> 16), byte(register >> 24)}
}

// P3.1: Sum, by cases written out.
func TestSum(t *testing.T) {
	for _, x := range known() {
		if got := Sum([]byte(x.text)); got != x.sum {
			t.Errorf("Sum(%q) = %08x, want %08x", x.text, got, x.sum)
		}
	}
	if got := Sum(nil); got != 0 {
		t.Errorf("Sum(nil) = %08x, want 0", got)
	}
}

// P3.1: Sum as told, of each byte alone, of each byte with a few behind it, and of many lengths.
func TestSumAsTold(t *testing.T) {
	for c := range 256 {
		b := []byte{byte(c)}
		if got, want := Sum(b), told(b); got != want {
			t.Errorf("Sum(%x) = %08x, want %08x", b, got, want)
		}
		for _, d := range []byte{0x00, 0x01, 0x7f, 0x80, 0xff} {
			b := []byte{byte(c), d}
			if got, want := Sum(b), told(b); got != want {
				t.Errorf("Sum(%x) = %08x, want %08x", b, got, want)
			}
		}
	}
	for n := range 300 {
		b := rising(n)
		if got, want := Sum(b), told(b); got != want {
			t.Errorf("Sum of %d bytes = %08x, want %08x", n, got, want)
		}
	}
}

// P3.1: Sum is the CRC-32 that others reckon too, of long bytes as well.
func TestSumIsCRC32(t *testing.T) {
	for _, n := range []int{0, 1, 2, 3, 4, 5, 7, 8, 9, 15, 16, 17, 255, 256, 257, 4095, 4096, 4097, 1 << 16, 1<<20 + 3} {
		b := rising(n)
		if got, want := Sum(b), crc32.ChecksumIEEE(b); got != want {
			t.Errorf("Sum of %d bytes = %08x, want %08x", n, got, want)
		}
	}
}

// P3.1: More, of any sum: that of a beginning that has it, with the bytes behind.
func TestMore(t *testing.T) {
	for _, sum := range sums() {
		ahead := beginning(sum)
		if got := Sum(ahead); got != sum {
			t.Fatalf("Sum(%x) = %08x, want %08x", ahead, got, sum)
		}
		for _, b := range [][]byte{nil, {}, {0}, {0xff}, []byte("a"), []byte("123456789"), rising(300)} {
			want := told(append(bytes.Clone(ahead), b...))
			if got := More(sum, b); got != want {
				t.Errorf("More(%08x, %x) = %08x, want %08x", sum, b, got, want)
			}
		}
	}
}

// P3.1: nothing behind leaves each sum as it is.
func TestMoreOfNothing(t *testing.T) {
	for _, sum := range sums() {
		for _, b := range [][]byte{nil, {}, make([]byte, 0, 8)} {
			if got := More(sum, b); got != sum {
				t.Errorf("More(%08x) of nothing = %08x", sum, got)
			}
		}
	}
}

// P3.1: behind no bytes at all, whose sum is 0, More is Sum.
func TestMoreOfNoBeginning(t *testing.T) {
	for _, x := range known() {
		if got := More(0, []byte(x.text)); got != x.sum {
			t.Errorf("More(0, %q) = %08x, want %08x", x.text, got, x.sum)
		}
	}
}

// P3.2: two parts, cut anywhere, have the sum of the whole.
func TestTwoParts(t *testing.T) {
	texts := [][]byte{rising(70)}
	for _, x := range known() {
		texts = append(texts, []byte(x.text))
	}
	for _, b := range texts {
		for cut := range len(b) + 1 {
			if got, want := More(Sum(b[:cut]), b[cut:]), Sum(b); got != want {
				t.Errorf("%x cut at %d: %08x, want %08x", b, cut, got, want)
			}
		}
	}
}

// P3.2: many parts of whatever length, none among them, have the sum of the whole.
func TestManyParts(t *testing.T) {
	b := rising(1000)
	for _, lengths := range [][]int{{1}, {0, 1}, {2, 0, 0, 3}, {7}, {8}, {1, 2, 3, 4, 5}, {0, 255, 0, 256, 257}, {999}, {1000}, {0, 1000, 0}} {
		sum, rest := Sum(nil), b
		for len(rest) > 0 {
			for _, n := range lengths {
				n = min(n, len(rest))
				sum = More(sum, rest[:n])
				rest = rest[n:]
			}
		}
		if want := Sum(b); sum != want {
			t.Errorf("parts of %v: %08x, want %08x", lengths, sum, want)
		}
	}
}

// P3.2: one bit turned turns the sum, at each place; and no two places turn it alike.
func TestOneBitTurned(t *testing.T) {
	texts := [][]byte{{0}, {0xff}, make([]byte, 33), bytes.Repeat([]byte{0xff}, 33), rising(300)}
	for _, x := range known() {
		texts = append(texts, []byte(x.text))
	}
	for _, b := range texts {
		places := map[uint32]int{Sum(b): -1}
		for place := range 8 * len(b) {
			turned := bytes.Clone(b)
			turned[place/8] ^= 1 << (place % 8)
			sum := Sum(turned)
			if same, ok := places[sum]; ok {
				t.Errorf("%x: bit %d turned has the sum %08x, as place %d has (-1: none turned)", b, place, sum, same)
			}
			places[sum] = place
		}
	}
}

// P3.2: one bit turned in the bytes behind, or in the sum of those ahead, turns More's sum.
func TestOneBitTurnedOfMore(t *testing.T) {
	b := rising(40)
	for _, sum := range sums() {
		want := More(sum, b)
		for place := range 8 * len(b) {
			turned := bytes.Clone(b)
			turned[place/8] ^= 1 << (place % 8)
			if More(sum, turned) == want {
				t.Errorf("More(%08x): bit %d turned leaves the sum", sum, place)
			}
		}
		for place := range 32 {
			if More(sum^1<<place, b) == want {
				t.Errorf("More(%08x): bit %d of the sum ahead turned leaves the sum", sum, place)
			}
		}
	}
}

// Rules 4 and 5: what is handed in is not changed, its spare room neither, and nothing of it or of an earlier call is seen in an answer.
func TestBytesAlone(t *testing.T) {
	whole := rising(64)
	before := slices.Clone(whole)
	part := whole[8:24]
	sum, more := Sum(part), More(0x12345678, part)
	if !bytes.Equal(whole, before) {
		t.Error("the bytes handed in, or those beside them, were changed")
	}
	apart := bytes.Clone(part)
	if Sum(apart) != sum || More(0x12345678, apart) != more {
		t.Error("the same bytes elsewhere have another sum")
	}
	clear(whole[24:])
	if Sum(part) != sum || More(0x12345678, part) != more {
		t.Error("spare room changes the sum")
	}
}
