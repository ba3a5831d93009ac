package mix

import (
	"bytes"
	"encoding/binary"
	"hash/fnv"
	"math"
	"math/big"
	"slices"
	"strings"
	"testing"
)

// golden is how far one state is from the next.
const golden = uint64(0x9e3779b97f4a7c15)

// hex is a number that is written out in hex.
func hex(text string) *big.Int {
	n, ok := new(big.Int).SetString(text, 16)
	if !ok {
		panic(text)
	}
	return n
}

// whole is a number without an end to its bits.
func whole(n uint64) *big.Int { return new(big.Int).SetUint64(n) }

// times is a product modulo 2^64.
func times(a, b *big.Int) *big.Int {
	product := new(big.Int).Mul(a, b)
	return product.Mod(product, hex("10000000000000000"))
}

// folded is a number changed by exclusive or with itself shifted to the right.
func folded(n *big.Int, by uint) *big.Int {
	return new(big.Int).Xor(n, new(big.Int).Rsh(n, by))
}

// stirred is a number stirred by the document's words.
func stirred(n *big.Int) *big.Int {
	n = times(folded(n, 30), hex("bf58476d1ce4e5b9"))
	n = times(folded(n, 27), hex("94d049bb133111eb"))
	return folded(n, 31)
}

// hashed is bytes' Hash by the document's words.
func hashed(b []byte) uint64 {
	n := hex("cbf29ce484222325")
	for _, c := range b {
		n = times(n.Xor(n, big.NewInt(int64(c))), hex("100000001b3"))
	}
	return stirred(n).Uint64()
}

// weighed is a Weight by the document's words.
func weighed(node, work int, salt uint64) uint64 {
	var b []byte
	for _, n := range []*big.Int{big.NewInt(int64(node)), big.NewInt(int64(work)), whole(salt)} {
		// Of a number below 0 the remainder is taken that isn't below 0.
		n.Mod(n, hex("10000000000000000"))
		for range 8 {
			low := new(big.Int)
			n.DivMod(n, big.NewInt(256), low)
			b = append(b, byte(low.Uint64()))
		}
	}
	return hashed(b)
}

// drawn is a Draw by the document's words.
func drawn(state uint64, n int) (next uint64, k int) {
	sum := new(big.Int).Add(whole(state), whole(golden))
	sum.Mod(sum, hex("10000000000000000"))
	if n > 0 {
		k = int(new(big.Int).Mod(stirred(sum), big.NewInt(int64(n))).Int64())
	}
	return sum.Uint64(), k
}

// rising is n bytes, no two neighbours alike, of all values.
func rising(n int) []byte {
	b := make([]byte, n)
	for i := range b {
		b[i] = byte(i*7 + i/256)
	}
	return b
}

// ints are numbers of all kinds: few, many, below 0, and with bits at each byte's edges.
func ints() []int {
	l := []int{0, 1, 2, 3, 7, 8, -1, -2, -3, -255, -256, -257, 12345, math.MaxInt, math.MaxInt - 1, math.MinInt, math.MinInt + 1}
	for s := 7; s < 63; s += 8 {
		l = append(l, 1<<s, 1<<(s+1)-1, -1<<s)
	}
	return l
}

// states are those at the edges, each bit alone, and those about the one whose next is 0.
func states() []uint64 {
	last := ^golden + 1
	l := []uint64{0, 5, 1234567, math.MaxUint64, math.MaxUint64 - 1, golden, last, last - 1, last + 1, 0x0123456789abcdef}
	for s := range 64 {
		l = append(l, 1<<s, ^uint64(1<<s))
	}
	return l
}

// P5.1: Hash, by cases written out: of no bytes, of one, of some in another order, and of many alike.
func TestHash(t *testing.T) {
	for _, x := range []struct {
		text string
		want uint64
	}{
		{"", 0xf52a15e9a9b5e89b},
		{"\x00", 0x25fc6dd36ce04b20}, {"\x01", 0xaa1093e3c79ab7f9}, {"\x80", 0x9334539ac3feef4d}, {"\xff", 0x4f2db50f124040cd},
		{"a", 0x02c0bdbf481420f8}, {"ab", 0x9ffe50a657e4a147}, {"ba", 0x9d8678b81c1f9e8a},
		{"foobar", 0x404da9e3b74078c2}, {"123456789", 0x4de1f3eb9eff0433},
		{strings.Repeat("\x00", 24), 0x6d688654e9834407}, {strings.Repeat("\xff", 24), 0x12a3c1a67c3242a7},
	} {
		if got := Hash([]byte(x.text)); got != x.want {
			t.Errorf("Hash(%q) = %016x, want %016x", x.text, got, x.want)
		}
	}
	for _, nothing := range [][]byte{nil, {}, make([]byte, 0, 8)} {
		if got := Hash(nothing); got != 0xf52a15e9a9b5e89b {
			t.Errorf("Hash of nothing = %016x", got)
		}
	}
}

// P5.1: Hash by the document's words, of each byte alone and of many lengths.
func TestHashAsTold(t *testing.T) {
	for c := range 256 {
		b := []byte{byte(c)}
		if got, want := Hash(b), hashed(b); got != want {
			t.Errorf("Hash(%x) = %016x, want %016x", b, got, want)
		}
	}
	for n := range 300 {
		b := rising(n)
		if got, want := Hash(b), hashed(b); got != want {
			t.Errorf("Hash of %d bytes = %016x, want %016x", n, got, want)
		}
	}
}

// P5.1: what is stirred at the end is the sum that others know as FNV-1a; of long bytes too.
func TestHashIsFNV(t *testing.T) {
	for _, n := range []int{0, 1, 2, 3, 7, 8, 9, 24, 255, 256, 257, 4096, 1<<16 + 3} {
		b := rising(n)
		sum := fnv.New64a()
		sum.Write(b)
		if got, want := Hash(b), stirred(whole(sum.Sum64())).Uint64(); got != want {
			t.Errorf("Hash of %d bytes = %016x, want %016x", n, got, want)
		}
	}
}

// P5.1: Hash hangs on each bit: one turned turns it, and no two places turn it alike.
func TestHashOfOneBitTurned(t *testing.T) {
	for _, b := range [][]byte{{0}, {0xff}, make([]byte, 24), bytes.Repeat([]byte{0xff}, 24), rising(100)} {
		places := map[uint64]int{Hash(b): -1}
		for place := range 8 * len(b) {
			turned := bytes.Clone(b)
			turned[place/8] ^= 1 << (place % 8)
			got := Hash(turned)
			if same, ok := places[got]; ok {
				t.Errorf("%x: bit %d turned has the Hash %016x, as place %d has (-1: none turned)", b, place, got, same)
			}
			places[got] = place
		}
	}
}

// P5.1: Weight, by cases written out: the document's example, its numbers in another order, below 0, and the greatest salt.
func TestWeight(t *testing.T) {
	for _, x := range []struct {
		node, work int
		salt       uint64
		want       uint64
	}{
		{0, 0, 0, 0x6d688654e9834407},
		{3, 4, 5, 0xc74fb8bb6ce7eda1}, {4, 3, 5, 0xf1271813143f9e0d}, {5, 4, 3, 0xc63a96d1e27cc21c},
		{-1, 4, 5, 0xca9435b184f34af1}, {3, -1, 5, 0x482ca5482f100442}, {-1, -1, 5, 0xd69e7a960c2259c4}, {-2, -256, 0, 0xfe7f89967748ff9a},
		{3, 4, math.MaxUint64, 0x733762bf2c8f5cfc}, {7, 7, math.MaxUint64, 0x4c17320cbea634f9}, {-1, -1, math.MaxUint64, 0x12a3c1a67c3242a7},
		{math.MinInt64, math.MaxInt64, 1 << 63, 0xdf49c6ee0444a672}, {math.MaxInt64, math.MinInt64, 1, 0xbda484927ee91a7d},
		{1 << 8, 1 << 16, 1 << 56, 0x39d440f3614a1b27}, {0x0102030405060708, 0x1112131415161718, 0x2122232425262728, 0x2887657ed5807792},
	} {
		if got := Weight(x.node, x.work, x.salt); got != x.want {
			t.Errorf("Weight(%d, %d, %d) = %016x, want %016x", x.node, x.work, x.salt, got, x.want)
		}
	}
}

// P5.1: the document's example: 03, 04 and 05, each with seven bytes 00 behind it.
func TestWeightOfTheExample(t *testing.T) {
	behind := strings.Repeat("\x00", 7)
	if got, want := Weight(3, 4, 5), Hash([]byte("\x03"+behind+"\x04"+behind+"\x05"+behind)); got != want {
		t.Errorf("Weight(3, 4, 5) = %016x, want %016x", got, want)
	}
}

// P5.1: Weight by the document's words, and as Hash of the bytes that Go's library writes, of all kinds of numbers.
func TestWeightAsTold(t *testing.T) {
	for _, node := range ints() {
		for _, work := range ints() {
			for _, salt := range []uint64{0, 1, 255, 256, 1 << 40, 1 << 63, math.MaxUint64, 0x0123456789abcdef} {
				got := Weight(node, work, salt)
				b := binary.LittleEndian.AppendUint64(nil, uint64(int64(node)))
				b = binary.LittleEndian.AppendUint64(b, uint64(int64(work)))
				if want := Hash(binary.LittleEndian.AppendUint64(b, salt)); got != want {
					t.Errorf("Weight(%d, %d, %d) = %016x, want %016x", node, work, salt, got, want)
				}
			}
		}
		for _, salt := range states() {
			for _, work := range []int{0, 7, -1} {
				if got, want := Weight(node, work, salt), weighed(node, work, salt); got != want {
					t.Errorf("Weight(%d, %d, %d) = %016x, want %016x", node, work, salt, got, want)
				}
			}
		}
	}
}

// P5.2: Draw, by cases written out: the document's example, n of 0, of 1, below 0 and the greatest, and a state that passes 2^64.
func TestDraw(t *testing.T) {
	for _, x := range []struct {
		state uint64
		n     int
		next  uint64
		k     int
	}{
		{0, 1, 0x9e3779b97f4a7c15, 0}, {0, 2, 0x9e3779b97f4a7c15, 1}, {0, 1000, 0x9e3779b97f4a7c15, 535},
		{0, 1 << 32, 0x9e3779b97f4a7c15, 2065550767}, {0, math.MaxInt64, 0x9e3779b97f4a7c15, 7070836379803831728},
		{5, 7, 0x9e3779b97f4a7c1a, 3}, {5, 0, 0x9e3779b97f4a7c1a, 0}, {5, -1, 0x9e3779b97f4a7c1a, 0}, {5, -3, 0x9e3779b97f4a7c1a, 0}, {5, math.MinInt64, 0x9e3779b97f4a7c1a, 0},
		{0x61c8864680b583ea, 1000, math.MaxUint64, 67}, {0x61c8864680b583eb, 1000, 0, 0}, {0x61c8864680b583ec, 1000, 1, 789},
		{math.MaxUint64, 1000, 0x9e3779b97f4a7c14, 936}, {math.MaxUint64, 0, 0x9e3779b97f4a7c14, 0}, {math.MaxUint64, -1, 0x9e3779b97f4a7c14, 0},
		{1 << 63, 1 << 62, 0x1e3779b97f4a7c15, 585116803935106011},
	} {
		if next, k := Draw(x.state, x.n); next != x.next || k != x.k {
			t.Errorf("Draw(%016x, %d) = %016x, %d, want %016x, %d", x.state, x.n, next, k, x.next, x.k)
		}
	}
}

// P5.2: one behind the other, draws are the numbers that others know as splitmix64.
func TestDrawIsSplitmix(t *testing.T) {
	for _, x := range []struct {
		state  uint64
		stream []uint64
	}{
		{0, []uint64{0xe220a8397b1dcdaf, 0x6e789e6aa1b965f4, 0x06c45d188009454f, 0xf88bb8a8724c81ec}},
		{1234567, []uint64{6457827717110365317, 3203168211198807973, 9817491932198370423, 4593380528125082431, 16408922859458223821}},
	} {
		state := x.state
		for i, want := range x.stream {
			for _, n := range []int{2, 3, 10, 1 << 20, 1<<62 - 1, 1 << 62, math.MaxInt64} {
				if _, k := Draw(state, n); k != int(want%uint64(n)) {
					t.Errorf("draw %d from %d on, of %d: %d, want %d", i, x.state, n, k, want%uint64(n))
				}
			}
			state, _ = Draw(state, 1)
		}
	}
}

// P5.2: Draw by the document's words, of states at the edges and of all kinds of n.
func TestDrawAsTold(t *testing.T) {
	for _, state := range states() {
		for _, n := range ints() {
			next, k := Draw(state, n)
			if wantNext, wantK := drawn(state, n); next != wantNext || k != wantK {
				t.Errorf("Draw(%016x, %d) = %016x, %d, want %016x, %d", state, n, next, k, wantNext, wantK)
			}
		}
	}
}

// P5.3: k is below n, and not below 0; 0, where nothing is below n.
func TestDrawIsBelow(t *testing.T) {
	bounds := ints()
	for n := range 300 {
		bounds = append(bounds, n, -n)
	}
	for _, n := range bounds {
		for _, state := range states() {
			if _, k := Draw(state, n); k < 0 || k >= max(n, 1) {
				t.Errorf("Draw(%016x, %d): k = %d", state, n, k)
			}
		}
	}
}

// P5.3: each number below n comes, and none far more often than another.
func TestDrawReachesAll(t *testing.T) {
	for _, n := range []int{1, 2, 3, 5, 8, 16} {
		often := make([]int, n)
		state := uint64(0)
		for range 1000 * n {
			next, k := Draw(state, n)
			often[k]++
			state = next
		}
		if slices.Min(often) < 800 || slices.Max(often) > 1200 {
			t.Errorf("draws below %d: %v", n, often)
		}
	}
}

// P5.3: as many draws lead to the same state, whatever they were asked for.
func TestDrawsLeadToOneState(t *testing.T) {
	for _, start := range states() {
		plain, mixed, backwards := start, start, start
		bounds := ints()
		for i, n := range bounds {
			plain, _ = Draw(plain, 1)
			mixed, _ = Draw(mixed, n)
			backwards, _ = Draw(backwards, bounds[len(bounds)-1-i])
			if want := start + uint64(i+1)*golden; plain != want || mixed != want || backwards != want {
				t.Fatalf("%d draws from %016x on: %016x, %016x, %016x, want %016x", i+1, start, plain, mixed, backwards, want)
			}
		}
	}
}

// Rules 4 and 5: what is handed in is not changed, its spare room neither, and nothing of it or of an earlier call is seen in an answer.
func TestBytesAlone(t *testing.T) {
	all := rising(64)
	before := slices.Clone(all)
	part := all[8:24]
	hash, weight := Hash(part), Weight(3, 4, 5)
	next, k := Draw(5, 7)
	if !bytes.Equal(all, before) {
		t.Error("the bytes handed in, or those beside them, were changed")
	}
	if Hash(bytes.Clone(part)) != hash {
		t.Error("the same bytes elsewhere have another Hash")
	}
	clear(all[24:])
	if Hash(part) != hash {
		t.Error("spare room changes the Hash")
	}
	if Weight(3, 4, 5) != weight {
		t.Error("a second Weight is another")
	}
	if nextAgain, kAgain := Draw(5, 7); nextAgain != next || kAgain != k {
		t.Error("a second Draw is another")
	}
}
