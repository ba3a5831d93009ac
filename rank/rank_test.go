package rank

import (
	"encoding/binary"
	"hash/fnv"
	"math"
	"math/rand"
	"reflect"
	"slices"
	"testing"

	"murmur/api"
)

const most = math.MaxUint64

// all are the nodes that there may be; everySet are all sets of them, those of none and of all too.
func all() []int { return []int{0, 1, 2, 3, 4, 5, 6, 7} }
func everySet() [][]int {
	var out [][]int
	for bits := range 1 << 8 {
		var l []int
		for n := range 8 {
			if bits>>n&1 == 1 {
				l = append(l, n)
			}
		}
		out = append(out, l)
	}
	return out
}

// works are workloads, and numbers that are none: just below and above, and an int's ends; salts are the least, the greatest, and others.
func works() []int {
	return []int{0, 1, 2, 3, 4, 5, 6, 7, 8, 9, 255, 256, -1, -2, -256, math.MaxInt, math.MaxInt - 1, math.MinInt, math.MinInt + 1}
}
func salts() []uint64 { return []uint64{0, 1, 7, 256, 1 << 63, 0x0123456789abcdef, most - 1, most} }

// weighed is a node's Weight as chapter 5 says it, without that layer.
func weighed(node, work int, salt uint64) uint64 {
	sum := fnv.New64a()
	for _, n := range []uint64{uint64(node), uint64(work), salt} {
		sum.Write(binary.LittleEndian.AppendUint64(nil, n))
	}
	n := sum.Sum64()
	n = (n ^ n>>30) * 0xbf58476d1ce4e5b9
	n = (n ^ n>>27) * 0x94d049bb133111eb
	return n ^ n>>31
}

// told are what the document says: of the nodes that are left the heaviest one is taken, again and again; the first of them owns; what it owns is its share.
func toldOrder(nodes []int, weight func(node int) uint64) []int {
	var out []int
	for range 8 {
		best := -1
		for n := range 8 {
			if slices.Contains(nodes, n) && !slices.Contains(out, n) && (best < 0 || weight(n) > weight(best)) {
				best = n
			}
		}
		if best >= 0 {
			out = append(out, best)
		}
	}
	return out
}
func toldOf(nodes []int, work int, salt uint64) []int {
	return toldOrder(nodes, func(n int) uint64 { return weighed(n, work, salt) })
}
func toldShare(nodes []int, salt uint64) [8][]int {
	var out [8][]int
	for n := range 8 {
		for work := range 8 {
			if l := toldOf(nodes, work, salt); len(l) > 0 && l[0] == n {
				out[n] = append(out[n], work)
			}
		}
	}
	return out
}

// sameShare says whether two are the same, lists of nil and of none too.
func sameShare(a, b [8][]int) bool {
	for n := range a {
		if !slices.Equal(a[n], b[n]) {
			return false
		}
	}
	return true
}

// without is a list with no n; with is one with n, somewhere within.
func without(l []int, n int) []int {
	return slices.DeleteFunc(slices.Clone(l), func(m int) bool { return m == n })
}
func with(l []int, n int) []int { return slices.Insert(slices.Clone(l), len(l)/2, n) }

// permutations are all orders of a list.
func permutations(l []int) [][]int {
	if len(l) == 0 {
		return [][]int{nil}
	}
	var out [][]int
	for i := range l {
		for _, p := range permutations(slices.Concat(l[:i], l[i+1:])) {
			out = append(out, append([]int{l[i]}, p...))
		}
	}
	return out
}

// owns: Owner is that node; none: it is ErrNone, and 0 beside it.
func owns(t *testing.T, nodes []int, work int, salt uint64, want int) {
	t.Helper()
	if n, e := Owner(nodes, work, salt); n != want || e != api.OK {
		t.Fatalf("Owner of %v, %d, %d: %d, %d, want %d", nodes, work, salt, n, e, want)
	}
}
func none(t *testing.T, nodes []int, work int, salt uint64) {
	t.Helper()
	if n, e := Owner(nodes, work, salt); n != 0 || e != api.ErrNone {
		t.Fatalf("Owner of %v, %d, %d: %d, %d, want ErrNone", nodes, work, salt, n, e)
	}
}

// ranksAre: of nodes, for a workload, Order is that, and Owner the first of it.
func ranksAre(t *testing.T, nodes []int, work int, salt uint64, want []int) {
	t.Helper()
	if got := Order(nodes, work, salt); !slices.Equal(got, want) {
		t.Fatalf("Order of %v, %d, %d: %v, want %v", nodes, work, salt, got, want)
	}
	if len(want) == 0 {
		none(t, nodes, work, salt)
		return
	}
	owns(t, nodes, work, salt, want[0])
}

// shareIs: Share is that.
func shareIs(t *testing.T, nodes []int, salt uint64, want [8][]int) {
	t.Helper()
	if got := Share(nodes, salt); !sameShare(got, want) {
		t.Fatalf("Share of %v, %d: %v, want %v", nodes, salt, got, want)
	}
}

// P12.1: the document's examples.
func TestExamples(t *testing.T) {
	for _, work := range works() {
		for _, salt := range salts() {
			none(t, nil, work, salt)
			none(t, []int{}, work, salt)
			owns(t, []int{3}, work, salt, 3)
		}
	}
}

// P12.1: Order, by cases written out: of all nodes, for each workload, for what is none, and with salts at the edges.
func TestOrder(t *testing.T) {
	for _, x := range []struct {
		work int
		salt uint64
		want []int
	}{
		{0, 0, []int{4, 7, 6, 3, 0, 1, 2, 5}},
		{1, 0, []int{0, 7, 3, 2, 6, 4, 5, 1}},
		{2, 0, []int{7, 4, 5, 3, 2, 6, 0, 1}},
		{3, 0, []int{5, 2, 7, 3, 1, 0, 6, 4}},
		{4, 0, []int{3, 7, 5, 4, 1, 6, 2, 0}},
		{5, 0, []int{3, 4, 7, 1, 2, 0, 5, 6}},
		{6, 0, []int{2, 0, 6, 5, 4, 7, 1, 3}},
		{7, 0, []int{6, 5, 2, 7, 0, 4, 3, 1}},
		{8, 0, []int{3, 4, 0, 7, 5, 1, 6, 2}},
		{0, 1, []int{7, 0, 3, 6, 5, 2, 4, 1}},
		{7, 1, []int{0, 7, 3, 2, 1, 5, 4, 6}},
		{4, 5, []int{3, 2, 0, 1, 6, 7, 5, 4}},
		{8, 7, []int{7, 2, 3, 4, 6, 5, 1, 0}},
		{0, 1 << 63, []int{3, 6, 4, 5, 0, 1, 2, 7}},
		{0, most, []int{3, 4, 1, 6, 7, 5, 2, 0}},
		{7, most, []int{1, 6, 0, 4, 5, 2, 7, 3}},
		{-1, 0, []int{7, 6, 5, 0, 3, 1, 4, 2}},
		{-1, most, []int{6, 4, 1, 2, 0, 5, 3, 7}},
		{math.MaxInt, 0, []int{5, 4, 3, 7, 0, 2, 1, 6}},
		{math.MaxInt, most, []int{1, 6, 7, 4, 2, 3, 0, 5}},
		{math.MinInt, 0, []int{5, 4, 3, 0, 2, 1, 6, 7}},
		{math.MinInt, most, []int{7, 6, 3, 4, 2, 0, 5, 1}},
	} {
		ranksAre(t, all(), x.work, x.salt, x.want)
	}
}

// P12.1: nodes that are told in odd ways: none of them, more than once, and numbers that are no nodes.
func TestNodes(t *testing.T) {
	// For the workload 0 and the salt 0 the nodes stand as 4, 7, 6, 3, 0, 1, 2, 5.
	for _, x := range []struct {
		name  string
		nodes []int
		want  []int
	}{
		{"nil", nil, nil},
		{"none", []int{}, nil},
		{"none, with spare room of nodes", []int{3, 4, 5}[:0], nil},
		{"the least node", []int{0}, []int{0}},
		{"the greatest node", []int{7}, []int{7}},
		{"two", []int{5, 2}, []int{2, 5}},
		{"some", []int{5, 1, 3}, []int{3, 1, 5}},
		{"twice, side by side", []int{5, 5, 4}, []int{4, 5}},
		{"twice, apart", []int{5, 4, 5}, []int{4, 5}},
		{"each twice", []int{5, 4, 0, 5, 4, 0}, []int{4, 0, 5}},
		{"one many times", []int{2, 2, 2, 2, 2, 2, 2, 2, 2}, []int{2}},
		{"all, and all again from the end", []int{0, 1, 2, 3, 4, 5, 6, 7, 7, 6, 5, 4, 3, 2, 1, 0}, []int{4, 7, 6, 3, 0, 1, 2, 5}},
		{"MaxNodes", []int{8}, nil},
		{"MaxNodes and the node below it", []int{8, 7}, []int{7}},
		{"below 0", []int{-1}, nil},
		{"below 0 and 0", []int{-1, 0}, []int{0}},
		{"an int's ends", []int{math.MinInt, math.MaxInt}, nil},
		{"an int's ends about nodes", []int{math.MaxInt, 1, math.MinInt, 6, math.MaxInt}, []int{6, 1}},
		{"what ends in a node's bits", []int{1 << 32, 1<<32 + 4, 256 + 4, 8 + 4, 16 + 4, -8 + 4, -256 + 4}, nil},
		{"none that is left in, told many times", []int{-1, 8, -1, 8, 9, -9, 100, -100}, nil},
	} {
		t.Run(x.name, func(t *testing.T) { ranksAre(t, x.nodes, 0, 0, x.want) })
	}
}

// P12.1: Share, by cases written out: of none, of one, of some, of all.
func TestShare(t *testing.T) {
	for _, x := range []struct {
		nodes []int
		salt  uint64
		want  [8][]int
	}{
		{nil, 0, [8][]int{}},
		{[]int{}, most, [8][]int{}},
		{[]int{8, -1, math.MaxInt, math.MinInt}, 0, [8][]int{}},
		{[]int{0}, 0, [8][]int{0: {0, 1, 2, 3, 4, 5, 6, 7}}},
		{[]int{7}, most, [8][]int{7: {0, 1, 2, 3, 4, 5, 6, 7}}},
		{[]int{8, 3, 3, -1}, 5, [8][]int{3: {0, 1, 2, 3, 4, 5, 6, 7}}},
		{all(), 0, [8][]int{0: {1}, 2: {6}, 3: {4, 5}, 4: {0}, 5: {3}, 6: {7}, 7: {2}}},
		{[]int{2, 6}, 0, [8][]int{2: {1, 2, 3, 5, 6}, 6: {0, 4, 7}}},
		{[]int{5, 1, 3}, 0, [8][]int{3: {0, 1, 4, 5}, 5: {2, 3, 6, 7}}},
		{[]int{7, 0}, 0, [8][]int{0: {1, 6}, 7: {0, 2, 3, 4, 5, 7}}},
		{all(), 1, [8][]int{0: {7}, 2: {3}, 3: {1, 2}, 4: {5}, 5: {4}, 6: {6}, 7: {0}}},
		{[]int{6, 2, 6, 8}, 1, [8][]int{2: {1, 3, 7}, 6: {0, 2, 4, 5, 6}}},
		{[]int{3, 5, 1}, 9, [8][]int{1: {0, 1, 2, 5, 7}, 3: {3, 4, 6}}},
		{all(), most, [8][]int{1: {2, 7}, 3: {0, 3}, 5: {5, 6}, 6: {1, 4}}},
		{[]int{2, 6}, most, [8][]int{2: {2}, 6: {0, 1, 3, 4, 5, 6, 7}}},
	} {
		shareIs(t, x.nodes, x.salt, x.want)
	}
}

// P12.1: each set of nodes, by the document's words.
func TestEachSet(t *testing.T) {
	for _, nodes := range everySet() {
		for _, salt := range salts() {
			for _, work := range works() {
				ranksAre(t, nodes, work, salt, toldOf(nodes, work, salt))
			}
			shareIs(t, nodes, salt, toldShare(nodes, salt))
		}
	}
}

// P12.1: lists, workloads and salts by chance, by the document's words.
func TestByChance(t *testing.T) {
	r := rand.New(rand.NewSource(12))
	for range 5000 {
		nodes := make([]int, r.Intn(14))
		for i := range nodes {
			nodes[i] = r.Intn(13) - 3
		}
		work, salt := int(r.Uint64()), r.Uint64()
		ranksAre(t, nodes, work, salt, toldOf(nodes, work, salt))
		shareIs(t, nodes, salt, toldShare(nodes, salt))
	}
}

// P12.1: each workload is in just one node's share, the least first, and no number that isn't one; in none, where there is no node.
func TestEachWorkloadIsOnes(t *testing.T) {
	for _, nodes := range everySet() {
		for _, salt := range salts() {
			var count [8]int
			for n, l := range Share(nodes, salt) {
				if !slices.IsSorted(l) || len(l) > 0 && !slices.Contains(nodes, n) {
					t.Fatalf("of %v, %d: %d has %v", nodes, salt, n, l)
				}
				for _, work := range l {
					count[work]++
					owns(t, nodes, work, salt, n)
				}
			}
			for work, n := range count {
				if n != min(len(nodes), 1) {
					t.Fatalf("of %v, %d: %d is in %d shares", nodes, salt, work, n)
				}
			}
		}
	}
}

// P12.1: of two with one weight the lesser one comes first; and weights are compared in all of their 64 bits.
func TestWeightsOfOneKind(t *testing.T) {
	for _, x := range []struct {
		name    string
		weights [8]uint64
		want    []int
	}{
		{"all 0", [8]uint64{}, []int{0, 1, 2, 3, 4, 5, 6, 7}},
		{"all the greatest", [8]uint64{most, most, most, most, most, most, most, most}, []int{0, 1, 2, 3, 4, 5, 6, 7}},
		{"two of one weight, the heaviest", [8]uint64{1, 9, 2, 3, 4, 5, 9, 7}, []int{1, 6, 7, 5, 4, 3, 2, 0}},
		{"two of one weight, the lightest", [8]uint64{1, 9, 2, 3, 4, 1, 8, 7}, []int{1, 6, 7, 4, 3, 2, 0, 5}},
		{"two kinds", [8]uint64{5, 3, 5, 3, 5, 3, 5, 3}, []int{0, 2, 4, 6, 1, 3, 5, 7}},
		{"three of one weight, apart", [8]uint64{7, 1, 4, 2, 4, 3, 9, 4}, []int{6, 0, 2, 4, 7, 5, 3, 1}},
		{"falling", [8]uint64{8, 7, 6, 5, 4, 3, 2, 1}, []int{0, 1, 2, 3, 4, 5, 6, 7}},
		{"rising", [8]uint64{1, 2, 3, 4, 5, 6, 7, 8}, []int{7, 6, 5, 4, 3, 2, 1, 0}},
		{"at the ends", [8]uint64{0, most, 1, most - 1, 1 << 63, 1<<63 - 1, 1 << 32, 1<<32 - 1}, []int{1, 3, 4, 5, 6, 7, 2, 0}},
		{"one lowest bit apart", [8]uint64{1<<63 + 1, 1 << 63, 1<<63 + 1, 1<<63 + 2, 0, 1, 0, 1}, []int{3, 0, 2, 1, 5, 7, 4, 6}},
	} {
		t.Run(x.name, func(t *testing.T) {
			weight := func(n int) uint64 { return x.weights[n] }
			for seed := range 100 {
				nodes := append(rand.New(rand.NewSource(int64(seed))).Perm(8), 3, 8, -1)
				if got := heaviestFirst(nodes, weight); !slices.Equal(got, x.want) {
					t.Fatalf("%v: %v, want %v", nodes, got, x.want)
				}
			}
		})
	}
}

// P12.1: all weights of few kinds, so that many are alike, in sets by chance.
func TestWeightsAlike(t *testing.T) {
	r := rand.New(rand.NewSource(1))
	for range 20000 {
		nodes := r.Perm(11)[:r.Intn(12)]
		kinds := 1 + r.Intn(4)
		var weights [8]uint64
		for n := range weights {
			weights[n] = uint64(r.Intn(kinds)) * (most / 3)
		}
		weight := func(n int) uint64 { return weights[n] }
		if got, want := heaviestFirst(nodes, weight), toldOrder(nodes, weight); !slices.Equal(got, want) {
			t.Fatalf("%v of %v: %v, want %v", nodes, weights, got, want)
		}
	}
}

// P12.1: no two nodes have one weight, as far as has been sought: layer 5 leads from two sums to two, byte by byte, and so no call can tell of such two.
func TestNoTwoOfOneWeight(t *testing.T) {
	r := rand.New(rand.NewSource(2))
	for range 50000 {
		work, salt := int(r.Uint64()), r.Uint64()
		seen := map[uint64]int{}
		for n := range 8 {
			seen[weighed(n, work, salt)] = n
		}
		if len(seen) != 8 {
			t.Fatalf("for %d, %d: %v", work, salt, seen)
		}
	}
}

// P12.2: it doesn't hang on the order in which nodes are told: all orders of five, of five with some twice and some that are none.
func TestAnyOrder(t *testing.T) {
	for _, nodes := range [][]int{{0, 2, 3, 6, 7}, {1, 1, 4, 8, 5}, {7, -1, 7, 0, 0}, {5, 2, math.MinInt, math.MaxInt, 3}} {
		for _, told := range permutations(nodes) {
			for _, salt := range []uint64{0, 5, most} {
				for _, work := range []int{0, 4, 7, 8, -1} {
					ranksAre(t, told, work, salt, Order(nodes, work, salt))
				}
				shareIs(t, told, salt, Share(nodes, salt))
			}
		}
	}
}

// P12.2: nor on how often: each set in orders by chance, each of it up to three times, with others between.
func TestAnyOrderOfEachSet(t *testing.T) {
	r := rand.New(rand.NewSource(3))
	for _, nodes := range everySet() {
		for range 5 {
			told := []int{8, -1}
			for _, n := range nodes {
				told = append(told, slices.Repeat([]int{n}, 1+r.Intn(3))...)
			}
			r.Shuffle(len(told), func(i, k int) { told[i], told[k] = told[k], told[i] })
			for _, work := range works() {
				ranksAre(t, told, work, 5, Order(nodes, work, 5))
			}
			shareIs(t, told, 5, Share(nodes, 5))
		}
	}
}

// P12.2: a node that goes, from each set: what it owned is the next one's in Order, all else stays as it was.
func TestGone(t *testing.T) {
	for _, nodes := range everySet() {
		for _, gone := range nodes {
			left := without(nodes, gone)
			for _, salt := range salts() {
				for _, work := range works() {
					l := Order(nodes, work, salt)
					ranksAre(t, left, work, salt, without(l, gone))
					switch {
					case l[0] != gone:
						owns(t, left, work, salt, l[0])
					case len(l) > 1:
						owns(t, left, work, salt, l[1])
					default:
						none(t, left, work, salt)
					}
				}
				goneIs(t, nodes, gone, salt)
			}
		}
	}
}

// goneIs: in Share the workloads of a node that goes are handed on, each to the next one in Order, and none else.
func goneIs(t *testing.T, nodes []int, gone int, salt uint64) {
	t.Helper()
	want := Share(nodes, salt)
	handed := want[gone]
	want[gone] = nil
	for _, work := range handed {
		if l := Order(nodes, work, salt); len(l) > 1 {
			want[l[1]] = append(want[l[1]], work)
			slices.Sort(want[l[1]])
		}
	}
	shareIs(t, without(nodes, gone), salt, want)
}

// P12.2: one that comes, to each set, takes for itself alone: what it doesn't own stays whose it was, and the others stay in one order.
func TestCome(t *testing.T) {
	for _, nodes := range everySet() {
		for _, come := range without(all(), -1) {
			if slices.Contains(nodes, come) {
				continue
			}
			more := with(nodes, come)
			for _, salt := range salts() {
				for _, work := range works() {
					l := Order(more, work, salt)
					ranksAre(t, nodes, work, salt, without(l, come))
					if l[0] != come {
						owns(t, nodes, work, salt, l[0])
					}
				}
				comeIs(t, nodes, come, salt)
			}
		}
	}
}

// comeIs: in Share each other one has what it had but for what the new one has.
func comeIs(t *testing.T, nodes []int, come int, salt uint64) {
	t.Helper()
	want := Share(nodes, salt)
	taken := Share(with(nodes, come), salt)[come]
	for n := range want {
		want[n] = slices.DeleteFunc(want[n], func(work int) bool { return slices.Contains(taken, work) })
	}
	want[come] = taken
	shareIs(t, with(nodes, come), salt, want)
}

// P12.2: nodes that come and go by chance, one behind the other, lead to the same as if those that are left were told at once.
func TestComeAndGo(t *testing.T) {
	r := rand.New(rand.NewSource(4))
	var there []int
	var owner [8]int
	for range 3000 {
		n := r.Intn(8)
		leaves := slices.Contains(there, n)
		if leaves {
			there = without(there, n)
		} else {
			there = with(there, n)
		}
		for work := range owner {
			now, e := Owner(there, work, 9)
			changed := owner[work] != now+1 && (e == api.OK || owner[work] != 0)
			if changed && (leaves && owner[work] != n+1 || !leaves && now != n) {
				t.Fatalf("%v, %d: from %d to %d as %d comes or goes", there, work, owner[work]-1, now, n)
			}
			owner[work] = 0
			if e == api.OK {
				owner[work] = now + 1
			}
		}
	}
}

// P12.1: all hang on the workload and on the salt: no node owns all for all salts, and no workload is one's always.
func TestSaltsDiffer(t *testing.T) {
	var count [8][8]int
	for salt := range uint64(4000) {
		for n, l := range Share(all(), salt) {
			for _, work := range l {
				count[work][n]++
			}
		}
	}
	for work, l := range count {
		for n, times := range l {
			if times < 350 || times > 650 {
				t.Errorf("%d owns %d %d times of 4000", n, work, times)
			}
		}
	}
}

// roomy is a list with spare room behind it, of numbers that are easy to tell; untouched: it is as it was, and so is the room.
func roomy(l []int) []int { return slices.Concat(l, []int{5, 77, 6, 77})[:len(l)] }
func untouched(got, l []int) bool {
	return slices.Equal(got, l) && slices.Equal(got[len(l):len(l)+4], []int{5, 77, 6, 77})
}

// scribble writes over a list and its spare room.
func scribble(l []int) {
	for i := range l[:cap(l)] {
		l[:cap(l)][i] = -77
	}
}

// P12.1, P12.2: what is handed in isn't changed, nor its spare room; nor is that room read.
func TestHandedIn(t *testing.T) {
	for _, l := range [][]int{nil, {3}, {7, 6, 5, 4, 3, 2, 1, 0}, {5, 1, 9, 3, 1, -2}, {0, 1, 2, 3, 4, 5, 6, 7}, {8, -1, 2, 2}} {
		in := roomy(l)
		ranksAre(t, in, 0, 7, toldOf(l, 0, 7))
		shareIs(t, in, 7, toldShare(l, 7))
		if !untouched(in, l) {
			t.Errorf("%v is now %v", l, in[:len(l)+4])
		}
	}
}

// P12.1: an answer is new memory, its spare room too: it is neither that of an argument, nor of another answer, nor of another list of it.
func TestNewMemory(t *testing.T) {
	in := all()
	first, share := Order(in, 0, 0), Share(in, 0)
	again, shareAgain := Order(in, 0, 0), Share(in, 0)
	want := slices.Clone(first)
	scribble(first)
	if !slices.Equal(in, all()) || !slices.Equal(again, want) {
		t.Errorf("%v, %v", in, again)
	}
	for n := range share {
		old := toldShare(all(), 0)
		old[n] = share[n]
		scribble(share[n])
		if !sameShare(share, old) {
			t.Errorf("what is written over %d's share is seen in another: %v", n, share)
		}
		share[n] = toldShare(all(), 0)[n]
	}
	if !sameShare(shareAgain, toldShare(all(), 0)) || !slices.Equal(in, all()) {
		t.Errorf("%v, %v", shareAgain, in)
	}
	ranksAre(t, in, 0, 0, want)
}

// P12.1: an answer hangs on its arguments alone: the same ones answer the same, whatever was asked between.
func TestSameAgain(t *testing.T) {
	nodes := []int{6, 1, 1, 9, 4}
	order, share := Order(nodes, 3, 8), Share(nodes, 8)
	for i := range 200 {
		Order(all(), i, uint64(i))
		Share([]int{i}, uint64(i))
		if got := Order(nodes, 3, 8); !reflect.DeepEqual(got, order) {
			t.Fatalf("%v, %v", got, order)
		}
		if got := Share(nodes, 8); !reflect.DeepEqual(got, share) {
			t.Fatalf("%v, %v", got, share)
		}
	}
}

// P12.1, P1: any arguments are taken: each edge of a node with each of a workload and of a salt, and a list of many.
func TestAnyArguments(t *testing.T) {
	edges := []int{math.MinInt, math.MinInt + 1, -256, -9, -8, -1, 0, 1, 6, 7, 8, 9, 255, 256, 1 << 32, math.MaxInt - 1, math.MaxInt}
	for _, a := range edges {
		for _, b := range edges {
			for _, work := range works() {
				for _, salt := range salts() {
					ranksAre(t, []int{a, b}, work, salt, toldOf([]int{a, b}, work, salt))
				}
			}
		}
	}
	many := make([]int, 1<<20)
	for i := range many {
		many[i] = i%40 - 20
	}
	ranksAre(t, many, 0, 0, []int{4, 7, 6, 3, 0, 1, 2, 5})
	shareIs(t, many, 0, toldShare(all(), 0))
}
