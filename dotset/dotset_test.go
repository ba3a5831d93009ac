package dotset

import (
	"bytes"
	"encoding/binary"
	"math"
	"math/rand"
	"slices"
	"testing"

	"murmur/api"
)

// dot is one, of two numbers.
func dot(node, seq int) api.Dot { return api.Dot{Node: node, Seq: seq} }

// dots are some, of two numbers each.
func dots(numbers ...int) []api.Dot {
	var l []api.Dot
	for i := 0; i < len(numbers); i += 2 {
		l = append(l, dot(numbers[i], numbers[i+1]))
	}
	return l
}

// upto is each node's Upto, those behind the ones that are told 0.
func upto(numbers ...int) [api.MaxNodes]int {
	var l [api.MaxNodes]int
	copy(l[:], numbers)
	return l
}

// same says whether two sets are written the same.
func same(a, b Set) bool { return a.Upto == b.Upto && slices.Equal(a.More, b.More) }

// order is the document's order of dots.
func order(a, b api.Dot) int {
	if a.Node != b.Node {
		return a.Node - b.Node
	}
	return a.Seq - b.Seq
}

// bag is dots without any order, as the tests know them.
type bag map[api.Dot]bool

// bagOf are these dots.
func bagOf(l []api.Dot) bag {
	m := bag{}
	for _, d := range l {
		m[d] = true
	}
	return m
}

// sorted are a bag's dots in order.
func (m bag) sorted() []api.Dot {
	var l []api.Dot
	for d := range m {
		l = append(l, d)
	}
	slices.SortFunc(l, order)
	return l
}

// set is a bag's set by the document's words: Upto as great as can be, and the others behind.
func (m bag) set() Set {
	var s Set
	for node := range s.Upto {
		for m[dot(node, s.Upto[node]+1)] {
			s.Upto[node]++
		}
	}
	for _, d := range m.sorted() {
		if d.Seq > s.Upto[d.Node] {
			s.More = append(s.More, d)
		}
	}
	return s
}

// opened is what the document says that a right set has.
func opened(s Set) bag {
	m := bagOf(s.More)
	for node, last := range s.Upto {
		for seq := 1; seq <= last; seq++ {
			m[dot(node, seq)] = true
		}
	}
	return m
}

// world are all dots that may be.
func world() []api.Dot {
	var l []api.Dot
	for node := range api.MaxNodes {
		for seq := 1; seq <= api.MaxSeq; seq++ {
			l = append(l, dot(node, seq))
		}
	}
	return l
}

// strange are dots that may not be.
func strange() []api.Dot {
	var l []api.Dot
	for _, node := range []int{-1, api.MaxNodes, -2, 9, math.MinInt, math.MaxInt} {
		for _, seq := range []int{-1, 0, 1, 2, api.MaxSeq, api.MaxSeq + 1} {
			l = append(l, dot(node, seq))
		}
	}
	for _, seq := range []int{0, api.MaxSeq + 1, -1, -63, -64, 127, 128, math.MinInt, math.MaxInt} {
		for node := range api.MaxNodes {
			l = append(l, dot(node, seq))
		}
	}
	return l
}

// rights are right sets: the empty one, the full one, those at the edges, and some by chance, dense and thin.
func rights() []Set {
	full := upto(96, 96, 96, 96, 96, 96, 96, 96)
	l := []Set{
		{}, {More: []api.Dot{}}, {Upto: full},
		{Upto: upto(1)}, {Upto: upto(96)}, {Upto: upto(0, 0, 0, 0, 0, 0, 0, 96)}, {Upto: upto(95, 94, 63, 64, 65, 62, 1, 2)},
		{More: dots(0, 2)}, {More: dots(7, 96)}, {More: dots(0, 96, 1, 2)}, {More: dots(0, 2, 0, 4, 7, 2, 7, 96)},
		{Upto: upto(3, 0, 0, 0, 0, 0, 0, 1), More: dots(0, 5)}, {Upto: upto(94), More: dots(0, 96)}, {Upto: upto(0, 5, 0, 62), More: dots(0, 3, 1, 7, 1, 8, 3, 64, 3, 65)},
		bagOf(world()[1:]).set(), bagOf(world()[:767]).set(),
	}
	for parity := range 2 {
		m := bag{}
		for _, d := range world() {
			if d.Seq%2 == parity {
				m[d] = true
			}
		}
		l = append(l, m.set())
	}
	return append(append(l, mostMore()), byChance(20)...)
}

// mostMore is the right set with as many dots beyond Upto as there can be: of each node all but the first.
func mostMore() Set {
	m := bagOf(world())
	for node := range api.MaxNodes {
		delete(m, dot(node, 1))
	}
	return m.set()
}

// byChance are n right sets, the same ones whenever they are asked for.
func byChance(n int) []Set {
	chance := rand.New(rand.NewSource(6))
	var l []Set
	for i := range n {
		m := bag{}
		for _, d := range world() {
			if chance.Intn(n) < i {
				m[d] = true
			}
		}
		l = append(l, m.set())
	}
	return l
}

// wrongs are sets that aren't right, each for one reason.
func wrongs() []Set {
	l := []Set{
		// More out of order, by Seq and by Node.
		{More: dots(0, 3, 0, 2)}, {More: dots(1, 2, 0, 2)}, {More: dots(1, 2, 0, 3)}, {More: dots(0, 2, 2, 5, 1, 9)}, {More: dots(0, 2, 0, 4, 0, 3, 0, 6)},
		// A dot twice.
		{More: dots(0, 3, 0, 3)}, {More: dots(7, 96, 7, 96)}, {More: dots(0, 2, 3, 4, 3, 4, 5, 6)}, {More: dots(0, 2, 3, 4, 0, 2)},
		// A Seq below its node's Upto, at it, and at Upto and 1.
		{Upto: upto(5), More: dots(0, 1)}, {Upto: upto(5), More: dots(0, 4)}, {Upto: upto(5), More: dots(0, 5)}, {Upto: upto(5), More: dots(0, 6)},
		{More: dots(0, 1)}, {More: dots(7, 1)}, {Upto: upto(1), More: dots(0, 2)}, {Upto: upto(95), More: dots(0, 96)}, {Upto: upto(96), More: dots(0, 96)}, {Upto: upto(96), More: dots(0, 2)},
		{Upto: upto(0, 0, 3), More: dots(0, 2, 2, 4)}, {Upto: upto(0, 0, 3), More: dots(0, 2, 2, 5, 3, 1)}, {Upto: upto(3, 9), More: dots(0, 5, 1, 9)},
	}
	// An Upto that may not be, of each node, with and without More.
	for node := range api.MaxNodes {
		for _, n := range []int{-1, api.MaxSeq + 1, -2, 128, math.MinInt, math.MaxInt, math.MaxInt - 1} {
			s := Set{}
			s.Upto[node] = n
			l = append(l, s, Set{Upto: s.Upto, More: dots(0, 50, 7, 50)}, Set{Upto: s.Upto, More: dots(node, 96)})
		}
	}
	// A dot that may not be, alone, at the end, and ahead of others.
	for _, d := range strange() {
		l = append(l, Set{More: []api.Dot{d}}, Set{More: []api.Dot{dot(0, 2), d}}, Set{Upto: upto(1), More: []api.Dot{d, dot(7, 96)}})
	}
	return l
}

// P6.1: Right, of sets by the document's words.
func TestRight(t *testing.T) {
	for _, s := range rights() {
		if !Right(s) {
			t.Errorf("%v isn't right", s)
		}
	}
	for _, s := range wrongs() {
		if Right(s) {
			t.Errorf("%v is right", s)
		}
	}
}

// P6.1: the edges of Upto and of a dot's Node and Seq.
func TestRightAtTheEdges(t *testing.T) {
	for node := range api.MaxNodes {
		for n := -3; n <= api.MaxSeq+3; n++ {
			s := Set{}
			s.Upto[node] = n
			if want := n >= 0 && n <= 96; Right(s) != want {
				t.Errorf("Right of an Upto of %d of node %d: %v", n, node, !want)
			}
			if want := n >= 2 && n <= 96; Right(Set{More: []api.Dot{dot(node, n)}}) != want {
				t.Errorf("Right of More %d %d: %v", node, n, !want)
			}
			for seq := range api.MaxSeq + 3 {
				s.More = []api.Dot{dot(node, seq)}
				if want := n >= 0 && n <= 96 && seq >= n+2 && seq <= 96; Right(s) != want {
					t.Errorf("Right of an Upto of %d and More %d %d: %v", n, node, seq, !want)
				}
			}
		}
	}
	for node := -2; node <= api.MaxNodes+2; node++ {
		if want := node >= 0 && node <= 7; Right(Set{More: []api.Dot{dot(node, 2)}}) != want {
			t.Errorf("Right of More %d 2: %v", node, !want)
		}
	}
}

// P6.1: of any two dots of More, those in order alone are right; of three too.
func TestRightInOrder(t *testing.T) {
	few := dots(0, 2, 0, 3, 0, 96, 1, 2, 1, 50, 7, 2, 7, 96)
	for i, a := range few {
		for k, b := range few {
			if got := Right(Set{More: []api.Dot{a, b}}); got != (i < k) {
				t.Errorf("Right of More %v %v: %v", a, b, got)
			}
			for n, c := range few {
				if got := Right(Set{More: []api.Dot{a, b, c}}); got != (i < k && k < n) {
					t.Errorf("Right of More %v %v %v: %v", a, b, c, got)
				}
			}
		}
	}
}

// P6.1: Has, of each dot that may be and of those that may not.
func TestHas(t *testing.T) {
	for _, s := range rights() {
		m := opened(s)
		for _, d := range append(world(), strange()...) {
			if Has(s, d) != m[d] {
				t.Errorf("Has(%v, %v) = %v", s, d, !m[d])
			}
		}
	}
}

// P6.1: Add, by cases written out, the document's examples at first.
func TestAdd(t *testing.T) {
	for _, x := range []struct {
		s    Set
		d    api.Dot
		want Set
		e    api.Errno
	}{
		{Set{}, dot(0, 2), Set{More: dots(0, 2)}, api.OK},
		{Set{More: dots(0, 2)}, dot(0, 1), Set{Upto: upto(2)}, api.OK},
		{Set{}, dot(0, 1), Set{Upto: upto(1)}, api.OK}, {Set{}, dot(7, 1), Set{Upto: upto(0, 0, 0, 0, 0, 0, 0, 1)}, api.OK},
		{Set{}, dot(0, 96), Set{More: dots(0, 96)}, api.OK}, {Set{}, dot(7, 96), Set{More: dots(7, 96)}, api.OK},
		{Set{Upto: upto(95)}, dot(0, 96), Set{Upto: upto(96)}, api.OK}, {Set{Upto: upto(94), More: dots(0, 96)}, dot(0, 95), Set{Upto: upto(96)}, api.OK},
		{Set{Upto: upto(3)}, dot(0, 5), Set{Upto: upto(3), More: dots(0, 5)}, api.OK},
		{Set{Upto: upto(3), More: dots(0, 5, 0, 6, 0, 8, 1, 2)}, dot(0, 4), Set{Upto: upto(6), More: dots(0, 8, 1, 2)}, api.OK},
		{Set{Upto: upto(3), More: dots(0, 5, 0, 6, 0, 8, 1, 2)}, dot(0, 7), Set{Upto: upto(3), More: dots(0, 5, 0, 6, 0, 7, 0, 8, 1, 2)}, api.OK},
		{Set{Upto: upto(3), More: dots(0, 5, 0, 6, 0, 8, 1, 2)}, dot(1, 1), Set{Upto: upto(3, 2), More: dots(0, 5, 0, 6, 0, 8)}, api.OK},
		{Set{Upto: upto(63)}, dot(0, 64), Set{Upto: upto(64)}, api.OK}, {Set{More: dots(0, 63)}, dot(0, 64), Set{More: dots(0, 63, 0, 64)}, api.OK},

		{Set{Upto: upto(1)}, dot(0, 1), Set{}, api.ErrTwice}, {Set{Upto: upto(3)}, dot(0, 1), Set{}, api.ErrTwice}, {Set{Upto: upto(3)}, dot(0, 3), Set{}, api.ErrTwice},
		{Set{More: dots(0, 2, 7, 96)}, dot(7, 96), Set{}, api.ErrTwice}, {Set{More: dots(0, 2, 7, 96)}, dot(0, 2), Set{}, api.ErrTwice},

		{Set{}, dot(-1, 1), Set{}, api.ErrArg}, {Set{}, dot(8, 1), Set{}, api.ErrArg}, {Set{}, dot(0, 0), Set{}, api.ErrArg}, {Set{}, dot(0, 97), Set{}, api.ErrArg},
		{Set{Upto: upto(3)}, dot(0, 0), Set{}, api.ErrArg}, {Set{Upto: upto(96)}, dot(0, 97), Set{}, api.ErrArg}, {Set{Upto: upto(3)}, dot(0, -1), Set{}, api.ErrArg},
	} {
		if got, e := Add(x.s, x.d); !same(got, x.want) || e != x.e {
			t.Errorf("Add(%v, %v) = %v, %d, want %v, %d", x.s, x.d, got, e, x.want, x.e)
		}
	}
}

// P6.1: Add of dots that may be, and of those that may not, to each right set.
func TestAddAsTold(t *testing.T) {
	for _, s := range rights() {
		m := opened(s)
		for _, d := range world() {
			// All of them would take long: those of some nodes, and others by turns.
			if d.Node%7 > 0 && (d.Node+d.Seq)%5 > 0 {
				continue
			}
			want, wantE := Set{}, api.ErrTwice
			if !m[d] {
				m[d] = true
				want, wantE = m.set(), api.OK
				delete(m, d)
			}
			if got, e := Add(s, d); !same(got, want) || e != wantE {
				t.Fatalf("Add(%v, %v) = %v, %d, want %v, %d", s, d, got, e, want, wantE)
			}
		}
		for _, d := range strange() {
			if got, e := Add(s, d); !same(got, Set{}) || e != api.ErrArg {
				t.Errorf("Add(%v, %v) = %v, %d", s, d, got, e)
			}
		}
	}
}

// P6.1: Join and Less, of each two right sets.
func TestJoinAndLess(t *testing.T) {
	for _, a := range rights() {
		for _, b := range rights() {
			both, alone := opened(a), opened(a)
			for d := range opened(b) {
				both[d] = true
				delete(alone, d)
			}
			if got, want := Join(a, b), both.set(); !same(got, want) {
				t.Fatalf("Join(%v, %v) = %v, want %v", a, b, got, want)
			}
			if got, want := Less(a, b), alone.sorted(); !slices.Equal(got, want) {
				t.Fatalf("Less(%v, %v) = %v, want %v", a, b, got, want)
			}
		}
	}
}

// P6.1: Join and Less, by cases written out.
func TestJoinAndLessWrittenOut(t *testing.T) {
	for _, x := range []struct {
		a, b, join Set
		less       []api.Dot
	}{
		{Set{}, Set{}, Set{}, nil},
		{Set{More: dots(0, 2)}, Set{}, Set{More: dots(0, 2)}, dots(0, 2)},
		{Set{}, Set{More: dots(0, 2)}, Set{More: dots(0, 2)}, nil},
		{Set{More: dots(0, 2)}, Set{Upto: upto(1)}, Set{Upto: upto(2)}, dots(0, 2)},
		{Set{Upto: upto(3)}, Set{Upto: upto(1)}, Set{Upto: upto(3)}, dots(0, 2, 0, 3)},
		{Set{Upto: upto(1)}, Set{Upto: upto(3)}, Set{Upto: upto(3)}, nil},
		{Set{Upto: upto(2, 1), More: dots(0, 4)}, Set{More: dots(0, 3, 7, 96)}, Set{Upto: upto(4, 1), More: dots(7, 96)}, dots(0, 1, 0, 2, 0, 4, 1, 1)},
		{Set{More: dots(0, 2, 0, 4, 0, 6)}, Set{More: dots(0, 3, 0, 5, 1, 2)}, Set{More: dots(0, 2, 0, 3, 0, 4, 0, 5, 0, 6, 1, 2)}, dots(0, 2, 0, 4, 0, 6)},
		{Set{Upto: upto(0, 0, 0, 0, 0, 0, 0, 95)}, Set{More: dots(7, 96)}, Set{Upto: upto(0, 0, 0, 0, 0, 0, 0, 96)}, world()[672:767]},
	} {
		if got := Join(x.a, x.b); !same(got, x.join) {
			t.Errorf("Join(%v, %v) = %v, want %v", x.a, x.b, got, x.join)
		}
		if got := Less(x.a, x.b); !slices.Equal(got, x.less) {
			t.Errorf("Less(%v, %v) = %v, want %v", x.a, x.b, got, x.less)
		}
	}
}

// P6.1: Count and List, of each right set; of the empty one and the full one written out.
func TestCountAndList(t *testing.T) {
	for _, s := range rights() {
		want := opened(s).sorted()
		if got := Count(s); got != len(want) {
			t.Errorf("Count(%v) = %d, want %d", s, got, len(want))
		}
		if got := List(s); !slices.Equal(got, want) {
			t.Errorf("List(%v) = %v, want %v", s, got, want)
		}
	}
	if Count(Set{}) != 0 || len(List(Set{})) != 0 {
		t.Error("the empty set has dots")
	}
	full := Set{Upto: upto(96, 96, 96, 96, 96, 96, 96, 96)}
	if Count(full) != 768 || !slices.Equal(List(full), world()) {
		t.Errorf("the full set has %d dots", Count(full))
	}
	if got := List(Set{Upto: upto(2, 0, 1), More: dots(0, 4, 1, 2, 1, 96)}); !slices.Equal(got, dots(0, 1, 0, 2, 0, 4, 1, 2, 1, 96, 2, 1)) {
		t.Errorf("List = %v", got)
	}
}

// P6.1: a set that isn't right counts as the empty one, in all but Put.
func TestWrongCountsAsEmpty(t *testing.T) {
	other := Set{Upto: upto(3, 0, 0, 0, 0, 0, 0, 1), More: dots(0, 5, 2, 9)}
	for _, s := range wrongs() {
		if Count(s) != 0 || len(List(s)) != 0 {
			t.Errorf("%v: Count %d, List %v", s, Count(s), List(s))
		}
		for _, d := range append(world(), s.More...) {
			if Has(s, d) {
				t.Errorf("%v has %v", s, d)
			}
		}
		for _, d := range append(dots(0, 1, 0, 2, 0, 5, 0, 6, 7, 1, 7, 96), s.More...) {
			wantSet, wantE := Add(Set{}, d)
			if got, e := Add(s, d); !same(got, wantSet) || e != wantE {
				t.Errorf("Add(%v, %v) = %v, %d, want %v, %d", s, d, got, e, wantSet, wantE)
			}
		}
		if got := Join(s, other); !same(got, other) {
			t.Errorf("Join(%v, %v) = %v", s, other, got)
		}
		if got := Join(other, s); !same(got, other) {
			t.Errorf("Join(%v, %v) = %v", other, s, got)
		}
		if got := Join(s, s); !same(got, Set{}) {
			t.Errorf("Join(%v, %v) = %v", s, s, got)
		}
		if got := Less(other, s); !slices.Equal(got, List(other)) {
			t.Errorf("Less(%v, %v) = %v", other, s, got)
		}
		if got := append(Less(s, other), Less(s, s)...); len(got) != 0 {
			t.Errorf("Less of %v: %v", s, got)
		}
	}
}

// P6.2: Put refuses a set that isn't right, with no bytes beside the error.
func TestPutRefuses(t *testing.T) {
	for _, s := range wrongs() {
		if got, e := Put(s); len(got) != 0 || e != api.ErrArg {
			t.Errorf("Put(%v) = %x, %d", s, got, e)
		}
	}
}

// P6.2: Put and Get, by cases written out: the document's example at first.
func TestPutAndGet(t *testing.T) {
	for _, x := range []struct {
		s Set
		b string
	}{
		{Set{}, "\x00\x00\x00\x00\x00\x00\x00\x00\x00"},
		{Set{Upto: upto(1, 2, 3, 4, 5, 6, 7, 8)}, "\x01\x02\x03\x04\x05\x06\x07\x08\x00"},
		{Set{Upto: upto(96, 96, 96, 96, 96, 96, 96, 96)}, "\x60\x60\x60\x60\x60\x60\x60\x60\x00"},
		{Set{More: dots(0, 2)}, "\x00\x00\x00\x00\x00\x00\x00\x00\x01\x00\x02"},
		{Set{Upto: upto(3, 0, 0, 0, 0, 0, 0, 1), More: dots(0, 5)}, "\x03\x00\x00\x00\x00\x00\x00\x01\x01\x00\x05"},
		{Set{Upto: upto(3, 0, 0, 0, 0, 0, 0, 1), More: dots(0, 5, 0, 96, 6, 2, 7, 3)}, "\x03\x00\x00\x00\x00\x00\x00\x01\x04\x00\x05\x00\x60\x06\x02\x07\x03"},
	} {
		if got, e := Put(x.s); string(got) != x.b || e != api.OK {
			t.Errorf("Put(%v) = %x, %d, want %x", x.s, got, e, x.b)
		}
		if got, e := Get([]byte(x.b)); !same(got, x.s) || e != api.OK {
			t.Errorf("Get(%x) = %v, %d, want %v", x.b, got, e, x.s)
		}
	}
}

// written are numbers as layer 2 writes them, by Go's library.
func written(numbers ...int) []byte {
	var b []byte
	for _, n := range numbers {
		b = binary.AppendUvarint(b, uint64(n))
	}
	return b
}

// numbers are what Put writes of a set, by the document's words, right or not.
func numbers(s Set) []int {
	l := append(slices.Clone(s.Upto[:]), len(s.More))
	for _, d := range s.More {
		l = append(l, d.Node, d.Seq)
	}
	return l
}

// refused holds Get against an error, and that nothing stands beside it.
func refused(t *testing.T, b []byte, want api.Errno) {
	t.Helper()
	if got, e := Get(b); !same(got, Set{}) || e != want {
		t.Errorf("Get(%.60x) = %v, %d, want %d", b, got, e, want)
	}
}

// P6.2: Get of bytes that end early, anywhere, and of bytes left.
func TestGetOfCutAndLeft(t *testing.T) {
	for _, s := range rights() {
		b := written(numbers(s)...)
		for cut := range b {
			refused(t, b[:cut:cut], api.ErrShort)
			// What was cut off may stand in the spare room: it is no part of the bytes.
			refused(t, b[:cut], api.ErrShort)
		}
		for _, behind := range []string{"\x00", "\x80", "\x80\x00", "more", string(b)} {
			refused(t, append(slices.Clone(b), behind...), api.ErrForm)
		}
	}
	refused(t, nil, api.ErrShort)
	refused(t, []byte{}, api.ErrShort)
}

// P6.2: Get of sets that aren't right, written as if they were.
func TestGetOfWrongSets(t *testing.T) {
	told := 0
	for _, s := range wrongs() {
		l := numbers(s)
		if slices.Min(l) < 0 || slices.Max(l) > api.Top {
			continue
		}
		told++
		refused(t, written(l...), api.ErrForm)
		refused(t, append(written(l...), 0), api.ErrForm)
		refused(t, written(l...)[:len(written(l...))-1], api.ErrShort)
	}
	if told < 100 {
		t.Errorf("%d wrong sets were written", told)
	}
	refused(t, written(api.Top, 0, 0, 0, 0, 0, 0, 0, 0), api.ErrForm)
	refused(t, written(0, 0, 0, 0, 0, 0, 0, 0, 1, api.Top, api.Top), api.ErrForm)
}

// P6.2: a number that layer 2 refuses is refused wherever it stands, as it is there.
func TestGetOfWrongNumbers(t *testing.T) {
	whole := []int{3, 0, 0, 0, 0, 0, 0, 1, 2, 0, 5, 2, 7}
	for i := range whole {
		for _, x := range []struct {
			number string
			e      api.Errno
		}{
			{"\x80\x00", api.ErrForm}, {"\x85\x00", api.ErrForm}, {"\x81\x80\x80\x80\x80\x20", api.ErrForm}, {"\x80\x80\x80\x80\x80\x80", api.ErrForm}, {"\x80\x80\x80\x80\x80\x80\x01", api.ErrForm},
		} {
			b := append(written(whole[:i]...), x.number...)
			refused(t, b, x.e)
			refused(t, append(b, written(whole[i+1:]...)...), x.e)
		}
		refused(t, append(written(whole[:i]...), 0x80), api.ErrShort)
		refused(t, append(written(whole[:i]...), 0xff, 0xff, 0xff, 0xff, 0xff), api.ErrShort)
	}
}

// P6.2: More's number at MaxNodes times MaxSeq, above it, and far above.
func TestGetOfMany(t *testing.T) {
	ahead := []int{0, 0, 0, 0, 0, 0, 0, 0}
	all := numbers(Set{More: world()})
	if all[8] != 768 {
		t.Fatalf("More's number is %d", all[8])
	}
	// At the bound, the dots are read: no right set has so many.
	refused(t, written(all...), api.ErrForm)
	refused(t, written(all[:9]...), api.ErrShort)
	refused(t, written(all[:len(all)-1]...), api.ErrShort)
	refused(t, append(written(all...), 0), api.ErrForm)
	for _, many := range []int{769, 770, 896, 1000, 1 << 20, 1 << 31, 1 << 32, api.Top - 1, api.Top} {
		b := written(append(slices.Clone(ahead), many)...)
		refused(t, b, api.ErrLong)
		refused(t, append(b, "\x80\x00"...), api.ErrLong)
		refused(t, append(b, bytes.Repeat([]byte{0, 2}, 1000)...), api.ErrLong)
		// An Upto that may not be is told behind the last number alone.
		refused(t, written(97, 0, 0, 0, 0, 0, 0, 0, many), api.ErrLong)
		refused(t, written(api.Top, 0, 0, 0, 0, 0, 0, 0, many, 8, 97), api.ErrLong)
		// A wrong number ahead of it is told first.
		refused(t, append([]byte("\x80\x00"), written(append(ahead[1:], many)...)...), api.ErrForm)
	}
	// The most that a right set may have.
	if s, e := Get(written(numbers(mostMore())...)); e != api.OK || len(s.More) != 760 || !same(s, mostMore()) {
		t.Errorf("Get of 760: %v, %d", s, e)
	}
}

// P6.2: where several errors hold, the first one is told.
func TestGetFirstError(t *testing.T) {
	for _, x := range []struct {
		b string
		e api.Errno
	}{
		{"\x61", api.ErrShort},                                                 // an Upto that may not be, and the bytes end early
		{"\x61\x80\x00", api.ErrForm},                                          // an Upto that may not be, and a number that may not
		{"\x00\x00\x00\x00\x00\x00\x00\x00\x02\x08\x01", api.ErrShort},         // a dot that may not be, and the next is missing
		{"\x00\x00\x00\x00\x00\x00\x00\x00\x02\x00\x03\x00", api.ErrShort},     // half a dot
		{"\x00\x00\x00\x00\x00\x00\x00\x00\x81\x06\x80\x00", api.ErrLong},      // too many, and a number that may not be behind
		{"\x00\x00\x00\x00\x00\x00\x00\x00\x80\x06", api.ErrShort},             // not too many, but none there
		{"\x00\x00\x00\x00\x00\x00\x00\x00\x81\x86\x00", api.ErrForm},          // a number that may not be, though it is too many
		{"\x00\x00\x00\x00\x00\x00\x00\x00\x81", api.ErrShort},                 // half a number
		{"\x00\x00\x00\x00\x00\x00\x00\x00\x02\x00\x03\x80\x00", api.ErrForm},  // a number that may not be, and the bytes end early
		{"\x00\x00\x00\x00\x00\x00\x00\x00\x02\x00\x03\x00\x03", api.ErrForm},  // a dot twice
		{"\x00\x00\x00\x00\x00\x00\x00\x00\x02\x00\x03\x00\x04x", api.ErrForm}, // bytes left
	} {
		refused(t, []byte(x.b), x.e)
	}
}

// number is what layer 2's chapter says of the number that bytes begin with.
func number(b []byte) (n, size int, e api.Errno) {
	for size < len(b) && size < 6 {
		n += int(b[size]%128) << (7 * size)
		size++
		if b[size-1] >= 128 {
			continue
		}
		if n > api.Top || size > 1 && b[size-1] == 0 {
			return 0, 0, api.ErrForm
		}
		return n, size, api.OK
	}
	if size == 6 {
		return 0, 0, api.ErrForm
	}
	return 0, 0, api.ErrShort
}

// told is what the document says of a set's bytes. A set is right, if it is the one that its dots have.
func told(b []byte) (Set, api.Errno) {
	var l []int
	for need := 9; len(l) < need; {
		n, size, e := number(b)
		if e != api.OK {
			return Set{}, e
		}
		l, b = append(l, n), b[size:]
		if len(l) != 9 {
			continue
		}
		if n > 768 {
			return Set{}, api.ErrLong
		}
		need += 2 * n
	}
	s := Set{Upto: upto(l[:8]...), More: dots(l[9:]...)}
	if len(b) > 0 || slices.Max(l[:8]) > 96 || slices.ContainsFunc(s.More, func(d api.Dot) bool { return d.Node > 7 || d.Seq < 1 || d.Seq > 96 }) || !same(opened(s).set(), s) {
		return Set{}, api.ErrForm
	}
	return s, api.OK
}

// texts are bytes of a set's numbers, from the last two Uptos on all of a few that matter, and cut anywhere.
func texts(f func(b []byte)) {
	few := []byte{0x00, 0x01, 0x02, 0x03, 0x60, 0x61, 0x80}
	var grow func(b []byte, more int)
	grow = func(b []byte, more int) {
		f(b)
		if more == 0 {
			return
		}
		for _, c := range few {
			grow(append(b[:len(b):len(b)], c), more-1)
		}
	}
	grow([]byte{1, 0, 0, 0, 0, 0}, 6)
	grow([]byte{0, 0, 0, 0, 0, 0, 0, 1, 2}, 5)
}

// P6.2, P6.3: of any bytes Get tells what the document says; and what is got is put as it was.
func TestGotIsPut(t *testing.T) {
	sets := 0
	texts(func(b []byte) {
		want, wantE := told(b)
		s, e := Get(b)
		if !same(s, want) || e != wantE {
			t.Fatalf("Get(%x) = %v, %d, want %v, %d", b, s, e, want, wantE)
		}
		if e != api.OK {
			return
		}
		sets++
		if put, e := Put(s); !Right(s) || !bytes.Equal(put, b) || e != api.OK {
			t.Fatalf("%x is got as %v, and put as %x, %d", b, s, put, e)
		}
	})
	if sets < 100 {
		t.Errorf("%d sets were got", sets)
	}
}

// P6.3: what is put is got.
func TestPutIsGot(t *testing.T) {
	for _, s := range rights() {
		b, e := Put(s)
		if e != api.OK || !bytes.Equal(b, written(numbers(s)...)) {
			t.Fatalf("Put(%v) = %x, %d", s, b, e)
		}
		if got, e := Get(b); !same(got, s) || e != api.OK {
			t.Errorf("%v is put as %x, and got as %v, %d", s, b, got, e)
		}
	}
}

// P6.3: joins go both ways, in any order, and once more changes nothing.
func TestJoins(t *testing.T) {
	l := append(rights(), wrongs()[:30]...)
	for i, a := range l {
		if got := Join(a, a); Right(a) && !same(got, a) {
			t.Errorf("Join(%v, itself) = %v", a, got)
		}
		for k, b := range l {
			ab := Join(a, b)
			if !Right(ab) || !same(ab, Join(b, a)) {
				t.Fatalf("%v and %v are joined one way alone", a, b)
			}
			if !same(ab, Join(ab, a)) || !same(ab, Join(b, ab)) || !same(ab, Join(ab, ab)) {
				t.Fatalf("%v and %v joined once more: another", a, b)
			}
			c := l[(i*7+k*3)%len(l)]
			if !same(Join(ab, c), Join(a, Join(b, c))) || !same(Join(ab, c), Join(Join(c, a), b)) {
				t.Fatalf("%v, %v and %v are joined in one order alone", a, b, c)
			}
		}
	}
}

// P6.3: sets of the same dots are the same, in whatever order and by whatever joins these came.
func TestSameDotsSameSet(t *testing.T) {
	chance := rand.New(rand.NewSource(66))
	for _, want := range rights() {
		l := List(want)
		chance.Shuffle(len(l), func(i, k int) { l[i], l[k] = l[k], l[i] })
		var added, joined Set
		var parts [3]Set
		for i, d := range l {
			var e api.Errno
			if added, e = Add(added, d); e != api.OK || !Right(added) {
				t.Fatalf("Add of %v: %d", d, e)
			}
			parts[i%3], _ = Add(parts[i%3], d)
		}
		for _, part := range parts {
			joined = Join(part, joined)
		}
		if !same(added, want) || !same(joined, want) {
			t.Errorf("of the dots of %v: %v, %v", want, added, joined)
		}
	}
}

// roomy is a set whose More has spare room behind it, of dots that are easy to tell.
func roomy(s Set) Set {
	more := slices.Clone(s.More)
	for range 8 {
		more = append(more, dot(-7, -7))
	}
	return Set{Upto: s.Upto, More: more[:len(s.More)]}
}

// untouched: the set and its spare room are as roomy left them.
func untouched(s, before Set) bool {
	want := slices.Clone(before.More)
	for range 8 {
		want = append(want, dot(-7, -7))
	}
	return s.Upto == before.Upto && slices.Equal(s.More[:len(want)], want)
}

// scribble writes over a list and its spare room.
func scribble[T any](l []T, with T) {
	l = l[:cap(l)]
	for i := range l {
		l[i] = with
	}
}

// Rule 4: what is handed in is not changed, its spare room neither, and no answer shares memory with it.
func TestTouchesNothing(t *testing.T) {
	for _, x := range append(rights(), wrongs()...) {
		other := Set{Upto: upto(1), More: dots(0, 3, 7, 5)}
		for _, y := range []Set{{}, x, other} {
			a, b := roomy(x), roomy(y)
			Right(a)
			Has(a, dot(0, 2))
			Count(a)
			for _, d := range dots(0, 1, 7, 96, 3, 50) {
				added, _ := Add(a, d)
				scribble(added.More, dot(-9, -9))
			}
			for _, l := range [][]api.Dot{Join(a, b).More, Join(b, a).More, Less(a, b), Less(b, a), List(a)} {
				scribble(l, dot(-9, -9))
			}
			put, _ := Put(a)
			scribble(put, 0xdd)
			if !untouched(a, x) || !untouched(b, y) {
				t.Fatalf("%v or %v was changed", x, y)
			}
		}
	}
}

// Rule 4: Get keeps none of its bytes, and changes none.
func TestGetTouchesNothing(t *testing.T) {
	for _, s := range rights() {
		b := written(numbers(s)...)
		room := append(slices.Clone(b), bytes.Repeat([]byte{0xee}, 8)...)
		before := slices.Clone(room)
		got, _ := Get(room[:len(b)])
		if !bytes.Equal(room, before) {
			t.Fatal("Get wrote into what it was given")
		}
		scribble(room, 0xdd)
		if !same(got, s) {
			t.Fatal("Get answers memory that it was given")
		}
	}
}

// Rule 5: what is answered hangs on no call ahead, and no answer is changed by a call behind it.
func TestSameAgain(t *testing.T) {
	a, b := Set{Upto: upto(2), More: dots(0, 4, 1, 3)}, Set{More: dots(0, 3, 7, 96)}
	join, less, list := Join(a, b), Less(a, b), List(a)
	put, _ := Put(a)
	got, _ := Get(put)
	scribble(Join(a, b).More, dot(5, 5))
	scribble(Less(a, b), dot(5, 5))
	scribble(List(a), dot(5, 5))
	again, _ := Put(a)
	scribble(again, 0xdd)
	other, _ := Get(put)
	scribble(other.More, dot(5, 5))
	if !same(join, Join(a, b)) || !slices.Equal(less, Less(a, b)) || !slices.Equal(list, List(a)) || !same(got, a) {
		t.Error("a second answer is another")
	}
	if !same(join, Set{Upto: upto(4), More: dots(1, 3, 7, 96)}) || !slices.Equal(less, dots(0, 1, 0, 2, 0, 4, 1, 3)) || !slices.Equal(list, dots(0, 1, 0, 2, 0, 4, 1, 3)) {
		t.Errorf("%v, %v, %v", join, less, list)
	}
}

// P1: a set of very many dots, the first of them right, ends soon in each call.
func TestVeryManyMore(t *testing.T) {
	s := Set{More: slices.Repeat(mostMore().More, 2000)}
	if Right(s) || Count(s) != 0 || Has(s, dot(0, 2)) || len(List(s)) != 0 || !same(Join(s, s), Set{}) {
		t.Error("very many dots are right")
	}
	if b, e := Put(s); len(b) != 0 || e != api.ErrArg {
		t.Errorf("Put: %d bytes, %d", len(b), e)
	}
}
