package policy

import (
	"math"
	"math/rand"
	"slices"
	"testing"

	"murmur/api"
)

const top = api.Top

// dot is one, of two numbers.
func dot(node, seq int) api.Dot { return api.Dot{Node: node, Seq: seq} }

// plain is an ordinary policy; marked is one of that Cool, by which it is told from others.
func plain() api.Policy {
	return api.Policy{Min: 1, Max: 4, Goal: 10, Slack: 20, Up: 2, Down: 3, Cool: 5}
}
func marked(mark int) api.Policy {
	p := plain()
	p.Cool = mark
	return p
}

// set, del and sample are events of each Kind; set's policy is marked.
func set(d api.Dot, time, work, mark int, removes ...api.Dot) api.Event {
	return api.Event{Dot: d, Time: time, Kind: api.Set, Work: work, Policy: marked(mark), Removes: removes}
}
func del(d api.Dot, time, work int, removes ...api.Dot) api.Event {
	return api.Event{Dot: d, Time: time, Kind: api.Del, Work: work, Removes: removes}
}
func sample(d api.Dot, time, work int) api.Event {
	return api.Event{Dot: d, Time: time, Kind: api.Sample, Work: work, Value: 5}
}

// same says whether two events are the same, Removes of nil and none too; sameAll says it of lists.
func same(a, b api.Event) bool {
	return a.Dot == b.Dot && a.Time == b.Time && a.Kind == b.Kind && a.Work == b.Work && a.Value == b.Value && a.Policy == b.Policy && slices.Equal(a.Removes, b.Removes)
}
func sameAll(a, b []api.Event) bool { return slices.EqualFunc(a, b, same) }

// marks are the marks of events' policies.
func marks(l []api.Event) []int {
	var out []int
	for _, e := range l {
		out = append(out, e.Policy.Cool)
	}
	return out
}

// reverse is a list from its end; shuffled is one in an order by chance, the same one of one seed.
func reverse[T any](l []T) []T {
	l = slices.Clone(l)
	slices.Reverse(l)
	return l
}
func shuffled[T any](l []T, seed int64) []T {
	l = slices.Clone(l)
	rand.New(rand.NewSource(seed)).Shuffle(len(l), func(i, k int) { l[i], l[k] = l[k], l[i] })
	return l
}

// permutations are all orders of a list.
func permutations[T any](l []T) [][]T {
	if len(l) == 0 {
		return [][]T{nil}
	}
	var out [][]T
	for i := range l {
		for _, p := range permutations(slices.Concat(l[:i], l[i+1:])) {
			out = append(out, append([]T{l[i]}, p...))
		}
	}
	return out
}

// later is the document's word of two events.
func later(a, b api.Event) bool {
	if a.Time != b.Time {
		return a.Time > b.Time
	}
	if a.Dot.Node != b.Dot.Node {
		return a.Dot.Node > b.Dot.Node
	}
	return a.Dot.Seq > b.Dot.Seq
}

// toldSets is what the document says of Sets, without sorting: each stands behind as many as are ahead of it.
func toldSets(l []api.Event, work int) []api.Event {
	var sets []api.Event
	for _, e := range l {
		if e.Kind == 2 && e.Work == work {
			sets = append(sets, e)
		}
	}
	out := make([]api.Event, len(sets))
	for i, e := range sets {
		place := 0
		for k, x := range sets {
			if later(x, e) || !later(e, x) && k < i {
				place++
			}
		}
		out[place] = e
	}
	return out
}

// toldWorks is what it says of Works: the least Work of a Set, then the least above it, and so on.
func toldWorks(l []api.Event) []int {
	var works []int
	for {
		least, found := 0, false
		for _, e := range l {
			above := len(works) == 0 || e.Work > works[len(works)-1]
			if e.Kind == 2 && above && (!found || e.Work < least) {
				least, found = e.Work, true
			}
		}
		if !found {
			return works
		}
		works = append(works, least)
	}
}

// toldAsked is what it says of Asked of a right policy: the fewest replicas that carry the load, or as many as may be.
func toldAsked(p api.Policy, load int) int {
	for n := p.Min; n < p.Max; n++ {
		if n*p.Goal >= load {
			return n
		}
	}
	return p.Max
}

// places are workloads, about those that there are, and far beyond.
func places() []int { return []int{math.MinInt, -1, 0, 1, 2, 3, 4, 7, 8, 9, math.MaxInt} }

// agrees: all that is answered of events is what the document says.
func agrees(t *testing.T, l []api.Event) {
	t.Helper()
	for _, work := range places() {
		want := toldSets(l, work)
		if got := Sets(l, work); !sameAll(got, want) {
			t.Fatalf("of %v: Sets of %d are %v, want %v", l, work, got, want)
		}
		var first api.Event
		if len(want) > 0 {
			first = want[0]
		}
		if p, d, ok := Winner(l, work); p != first.Policy || d != first.Dot || ok != (len(want) > 0) {
			t.Fatalf("of %v: Winner of %d is %v, %v, %v, want %v", l, work, p, d, ok, first)
		}
	}
	if got, want := Works(l), toldWorks(l); !slices.Equal(got, want) {
		t.Fatalf("of %v: Works are %v, want %v", l, got, want)
	}
}

// P9.2: the document's example; and the first of those of the whole.
func TestExample(t *testing.T) {
	p := api.Policy{Min: 1, Max: 4, Goal: 10, Up: 1, Down: 1}
	for _, x := range []struct{ load, want int }{{25, 3}, {0, 1}, {99, 4}} {
		if n, e := Asked(p, x.load); n != x.want || e != api.OK {
			t.Errorf("Asked of %d: %d, %d, want %d", x.load, n, e, x.want)
		}
	}
	p.Max = 9
	if n, e := Asked(p, 42); n != 5 || e != api.OK {
		t.Errorf("Asked of 42: %d, %d, want 5", n, e)
	}
}

// P9.1: of two that are set at one time the later one counts, by its time, then by its node.
func TestTwoAtOneTime(t *testing.T) {
	one, other := set(dot(1, 9), 5, 0, 1), set(dot(2, 3), 5, 0, 2)
	for _, l := range [][]api.Event{{one, other}, {other, one}} {
		if p, d, ok := Winner(l, 0); p != marked(2) || d != dot(2, 3) || !ok {
			t.Errorf("Winner of %v is %v, %v, %v", l, p, d, ok)
		}
	}
	one.Time = 6
	for _, l := range [][]api.Event{{one, other}, {other, one}} {
		if p, d, ok := Winner(l, 0); p != marked(1) || d != dot(1, 9) || !ok {
			t.Errorf("Winner of %v is %v, %v, %v", l, p, d, ok)
		}
	}
}

// strange are events that aren't right, none of them a Set; each is of the workload 3.
func strange() []api.Event {
	l := []api.Event{{Work: 3}, del(dot(1, 1), 9, 3), sample(dot(1, 2), 9, 3), del(dot(8, 0), top+1, 3, dot(8, 0)), sample(dot(-1, 97), -1, 3)}
	for _, kind := range []int{0, 1, 3, 4, -2, 258, math.MinInt, math.MaxInt} {
		e := set(dot(7, 96), top, 3, 1, dot(0, 1))
		e.Kind = kind
		l = append(l, e)
	}
	return l
}

// P9.1: no events, and none that is a Set of that workload.
func TestNone(t *testing.T) {
	others := []api.Event{set(dot(0, 1), 1, 2, 1), set(dot(0, 2), 9, 4, 2), set(dot(0, 3), 5, -3, 3), set(dot(0, 4), 5, 259, 4)}
	for _, l := range [][]api.Event{nil, {}, strange(), others, slices.Concat(strange(), others), make([]api.Event, 5)} {
		if got := Sets(l, 3); len(got) != 0 {
			t.Errorf("Sets of %v: %v", l, got)
		}
		if p, d, ok := Winner(l, 3); p != (api.Policy{}) || d != (api.Dot{}) || ok {
			t.Errorf("Winner of %v: %v, %v, %v", l, p, d, ok)
		}
		agrees(t, l)
	}
	for _, l := range [][]api.Event{nil, {}, strange(), make([]api.Event, 5)} {
		if got := Works(l); len(got) != 0 {
			t.Errorf("Works of %v: %v", l, got)
		}
	}
}

// P9.1: Sets and Winner, by cases written out; what is wanted are the marks.
func TestSets(t *testing.T) {
	for _, x := range []struct {
		name string
		l    []api.Event
		want []int
	}{
		{"one", []api.Event{set(dot(0, 1), 1, 3, 1)}, []int{1}},
		{"Times that rise", []api.Event{set(dot(0, 1), 1, 3, 1), set(dot(0, 2), 2, 3, 2), set(dot(0, 3), 3, 3, 3)}, []int{3, 2, 1}},
		{"Times that fall", []api.Event{set(dot(0, 1), 3, 3, 1), set(dot(0, 2), 2, 3, 2), set(dot(0, 3), 1, 3, 3)}, []int{1, 2, 3}},
		{"Times to and fro", []api.Event{set(dot(0, 1), 2, 3, 1), set(dot(0, 2), top, 3, 2), set(dot(0, 3), 1, 3, 3), set(dot(0, 4), 9, 3, 4)}, []int{2, 4, 1, 3}},
		{"a Time above, a Node below", []api.Event{set(dot(0, 1), 3, 3, 1), set(dot(7, 96), 2, 3, 2)}, []int{1, 2}},
		{"one Time, Nodes", []api.Event{set(dot(1, 1), 2, 3, 1), set(dot(7, 1), 2, 3, 2), set(dot(0, 1), 2, 3, 3), set(dot(4, 1), 2, 3, 4)}, []int{2, 4, 1, 3}},
		{"one Time, a Node above, a Seq below", []api.Event{set(dot(1, 96), 2, 3, 1), set(dot(2, 1), 2, 3, 2)}, []int{2, 1}},
		{"one Time, one Node, Seqs", []api.Event{set(dot(1, 5), 2, 3, 1), set(dot(1, 96), 2, 3, 2), set(dot(1, 1), 2, 3, 3), set(dot(1, 10), 2, 3, 4)}, []int{2, 4, 1, 3}},
		{"neither later", []api.Event{set(dot(1, 5), 2, 3, 1), set(dot(1, 5), 2, 3, 2)}, []int{1, 2}},
		{"neither later, the other way", []api.Event{set(dot(1, 5), 2, 3, 2), set(dot(1, 5), 2, 3, 1)}, []int{2, 1}},
		{"neither later, behind a later one", []api.Event{set(dot(1, 5), 2, 3, 1), set(dot(1, 5), 3, 3, 2), set(dot(1, 5), 2, 3, 3), set(dot(1, 5), 3, 3, 4)}, []int{2, 4, 1, 3}},
		{"one twice", []api.Event{set(dot(1, 5), 2, 3, 7), set(dot(1, 5), 2, 3, 7)}, []int{7, 7}},
		{"one dot, two Times", []api.Event{set(dot(1, 5), 2, 3, 1), set(dot(1, 5), 4, 3, 2)}, []int{2, 1}},
		{"other Kinds, later", []api.Event{set(dot(1, 1), 2, 3, 1), del(dot(2, 1), 9, 3), sample(dot(7, 1), 99, 3), set(dot(0, 1), 3, 3, 2)}, []int{2, 1}},
		{"other workloads', later", []api.Event{set(dot(1, 1), 2, 3, 1), set(dot(2, 1), 9, 2, 8), set(dot(7, 1), 99, 4, 9), set(dot(0, 1), 3, 3, 2)}, []int{2, 1}},
		{"a removed one", []api.Event{set(dot(1, 1), 9, 3, 1), set(dot(2, 1), 2, 3, 2, dot(1, 1)), del(dot(3, 1), 99, 3, dot(2, 1))}, []int{1, 2}},
		{"Times that may not be", []api.Event{set(dot(1, 1), 0, 3, 1), set(dot(1, 1), math.MaxInt, 3, 2), set(dot(1, 1), -1, 3, 3), set(dot(1, 1), math.MinInt, 3, 4), set(dot(1, 1), top+1, 3, 5)}, []int{2, 5, 1, 3, 4}},
		{"dots that may not be", []api.Event{set(dot(8, 0), 1, 3, 1), set(dot(math.MinInt, math.MaxInt), 1, 3, 2), set(dot(8, 97), 1, 3, 3), set(dot(-1, 1), 1, 3, 4), set(dot(8, math.MinInt), 1, 3, 5), set(dot(math.MaxInt, -1), 1, 3, 6)}, []int{6, 3, 1, 5, 4, 2}},
		{"marks that may not be", []api.Event{set(dot(0, 1), 1, 3, -1), set(dot(0, 2), 1, 3, math.MaxInt), set(dot(0, 3), 1, 3, math.MinInt)}, []int{math.MinInt, math.MaxInt, -1}},
	} {
		got := Sets(x.l, 3)
		if !slices.Equal(marks(got), x.want) {
			t.Errorf("Sets of %s: %v, want %v", x.name, marks(got), x.want)
			continue
		}
		if p, d, ok := Winner(x.l, 3); p != got[0].Policy || d != got[0].Dot || !ok || p.Cool != x.want[0] {
			t.Errorf("Winner of %s: %v, %v, %v, want %v", x.name, p, d, ok, got[0])
		}
		agrees(t, x.l)
	}
}

// P9.1: a Set is answered whole, and as it is, where it isn't right too; so is what it says of a policy.
func TestSetsAreWhole(t *testing.T) {
	right := set(dot(1, 2), 3, 4, 5, dot(0, 1), dot(1, 1))
	odd := api.Event{Dot: dot(-1, 0), Time: -5, Kind: api.Set, Work: 4, Value: -9, Policy: api.Policy{Min: 5, Max: -1, Goal: 0, Slack: 101, Up: math.MinInt, Down: math.MaxInt, Cool: -1}, Removes: []api.Dot{dot(9, 9), dot(-1, 0), dot(9, 9)}}
	bare := api.Event{Kind: api.Set, Work: 4, Time: -6}
	for _, l := range permutations([]api.Event{right, odd, bare, strange()[0]}) {
		if got := Sets(l, 4); !sameAll(got, []api.Event{right, odd, bare}) {
			t.Errorf("Sets = %v", got)
		}
	}
	if p, d, ok := Winner([]api.Event{bare, odd}, 4); p != odd.Policy || d != odd.Dot || !ok {
		t.Errorf("Winner = %v, %v, %v", p, d, ok)
	}
	if p, d, ok := Winner([]api.Event{bare}, 4); p != (api.Policy{}) || d != (api.Dot{}) || !ok {
		t.Errorf("Winner of a Set of zeros = %v, %v, %v", p, d, ok)
	}
}

// P9.1: Works, by cases written out, those that there are not too.
func TestWorks(t *testing.T) {
	for _, x := range []struct{ works, want []int }{
		{nil, nil}, {[]int{0}, []int{0}}, {[]int{7}, []int{7}}, {[]int{3, 3, 3}, []int{3}},
		{[]int{0, 1, 2}, []int{0, 1, 2}}, {[]int{2, 1, 0}, []int{0, 1, 2}}, {[]int{5, 0, 7, 5, 0}, []int{0, 5, 7}},
		{[]int{7, 6, 5, 4, 3, 2, 1, 0, 7, 0}, []int{0, 1, 2, 3, 4, 5, 6, 7}},
		{[]int{8, -1, 0}, []int{-1, 0, 8}}, {[]int{math.MaxInt, 0, math.MinInt, -1, math.MaxInt}, []int{math.MinInt, -1, 0, math.MaxInt}},
		{[]int{256, 0, 1 << 32}, []int{0, 256, 1 << 32}},
	} {
		var l []api.Event
		for i, work := range x.works {
			l = append(l, set(dot(i%8, 1), 9-i, work, i), del(dot(i%8, 2), 1, 4), sample(dot(i%8, 3), 99, 6), api.Event{Kind: 4, Work: 1})
		}
		for _, l := range [][]api.Event{l, reverse(l), shuffled(l, 1)} {
			if got := Works(l); !slices.Equal(got, x.want) {
				t.Errorf("Works of %v: %v, want %v", x.works, got, x.want)
			}
		}
		agrees(t, l)
	}
}

// P9.1: each workload's own, of Sets of all of them.
func TestEachWorkload(t *testing.T) {
	var l []api.Event
	for i := range 40 {
		l = append(l, set(dot(i%7, i/7), i*13%40, i%9-1, i))
	}
	for _, work := range places() {
		for _, e := range Sets(l, work) {
			if e.Work != work || e.Policy.Cool%9-1 != work {
				t.Errorf("Sets of %d: %v", work, e)
			}
		}
		_, _, ok := Winner(l, work)
		if ok != (work >= -1 && work <= 7) || ok != slices.Contains(Works(l), work) {
			t.Errorf("Winner of %d: %v", work, ok)
		}
	}
	agrees(t, l)
}

// few are some events of which many lists are made: Sets of which either is later, or neither, others' and other Kinds.
func few() []api.Event {
	return []api.Event{
		set(dot(1, 2), 2, 3, 1), set(dot(1, 2), 2, 3, 2), set(dot(1, 3), 2, 3, 3), set(dot(2, 1), 2, 3, 4), set(dot(0, 96), 3, 3, 5),
		set(dot(1, 2), 1, 3, 6, dot(1, 1)), set(dot(-1, 0), 2, 3, 7), set(dot(1, 2), 2, 4, 8), set(dot(9, 9), 9, -1, 9), del(dot(3, 3), 9, 3),
	}
}

// P9.1: of each list of up to four of a few events, all that is answered is what the document says.
func TestAsTold(t *testing.T) {
	var grow func(l []api.Event)
	grow = func(l []api.Event) {
		agrees(t, l)
		if len(l) == 4 {
			return
		}
		for _, e := range few() {
			grow(append(slices.Clip(l), e))
		}
	}
	grow(nil)
}

// byChance is an event of so many Times, nodes and Seqs at most, some of them not right; its mark is its own.
func byChance(chance *rand.Rand, width, mark int) api.Event {
	e := set(dot(chance.Intn(width)-1, chance.Intn(width)), chance.Intn(width), chance.Intn(10)-1, mark)
	if chance.Intn(6) == 0 {
		e.Kind = chance.Intn(5)
	}
	for range chance.Intn(3) {
		e.Removes = append(e.Removes, dot(chance.Intn(8), chance.Intn(97)))
	}
	return e
}

// P9.1: the same of many events by chance; in long lists of few Times and dots those stay in their order of which neither is later.
func TestManyAsTold(t *testing.T) {
	chance := rand.New(rand.NewSource(9))
	for _, width := range []int{1, 2, 3, 5, 40, 1000} {
		for _, n := range []int{1, 5, 11, 12, 13, 19, 20, 21, 41, 100, 400, 900} {
			var l []api.Event
			for i := range n {
				l = append(l, byChance(chance, width, i))
			}
			agrees(t, l)
			for i := range l {
				l[i].Kind, l[i].Work = api.Set, 3
			}
			agrees(t, l)
		}
	}
}

// P9.3: where events stand says nothing, if their dots are unlike.
func TestInAnyOrder(t *testing.T) {
	l := []api.Event{set(dot(1, 2), 2, 3, 1), set(dot(1, 3), 2, 3, 2), set(dot(2, 1), 2, 3, 3), set(dot(0, 9), 1, 3, 4), set(dot(0, 1), 2, 3, 5), set(dot(5, 5), 7, 2, 6), del(dot(7, 7), 9, 3)}
	for _, p := range permutations(l) {
		if q, d, ok := Winner(p, 3); q != marked(3) || d != dot(2, 1) || !ok {
			t.Fatalf("Winner of %v is %v, %v, %v", p, q, d, ok)
		}
		if got := marks(Sets(p, 3)); !slices.Equal(got, []int{3, 2, 1, 5, 4}) {
			t.Fatalf("Sets of %v are %v", p, got)
		}
		if got := Works(p); !slices.Equal(got, []int{2, 3}) {
			t.Fatalf("Works of %v are %v", p, got)
		}
	}
}

// P9.3: the same of all the dots that there are, at few Times.
func TestAllInAnyOrder(t *testing.T) {
	var l []api.Event
	for i := range 768 {
		l = append(l, set(dot(i/96, 1+i%96), 1+i%5, i%8, i))
	}
	for seed := range int64(10) {
		for _, p := range [][]api.Event{l, reverse(l), shuffled(l, seed)} {
			for work := range 8 {
				sets := Sets(p, work)
				if !sameAll(sets, toldSets(l, work)) {
					t.Fatalf("Sets of %d are %v", work, sets)
				}
				if q, d, ok := Winner(p, work); q != sets[0].Policy || d != sets[0].Dot || !ok {
					t.Fatalf("Winner of %d is %v, %v, %v", work, q, d, ok)
				}
			}
			if got := Works(p); !slices.Equal(got, []int{0, 1, 2, 3, 4, 5, 6, 7}) {
				t.Fatalf("Works are %v", got)
			}
		}
	}
}

// of is an ordinary policy with other bounds and another Goal.
func of(min, max, goal int) api.Policy {
	p := plain()
	p.Min, p.Max, p.Goal = min, max, goal
	return p
}

// P9.2: Asked, by cases written out.
func TestAsked(t *testing.T) {
	for _, x := range []struct {
		name string
		p    api.Policy
		load int
		want int
	}{
		{"a load below 0", of(0, 9, 10), -1, 0}, {"a load far below 0", of(0, 9, 10), -999, 0}, {"the least load", of(0, 9, 10), math.MinInt, 0},
		{"a load below 0, and a Min", of(3, 9, 10), -1, 3}, {"the least load, and a Min", of(3, 9, 10), math.MinInt, 3},
		{"0", of(0, 9, 10), 0, 0}, {"0, and a Min", of(2, 9, 10), 0, 2}, {"1", of(0, 9, 10), 1, 1},
		{"one less than a Goal", of(0, 9, 10), 9, 1}, {"a Goal", of(0, 9, 10), 10, 1}, {"one more", of(0, 9, 10), 11, 2},
		{"seven Goals", of(0, 9, 10), 70, 7}, {"one less than seven", of(0, 9, 10), 69, 7}, {"one more than seven", of(0, 9, 10), 71, 8},
		{"a Goal of 1", of(0, 9, 1), 7, 7}, {"the greatest Goal", of(0, 9, 1<<30), 1, 1}, {"two of the greatest Goal", of(0, 9, 1<<30), 1 << 31, 2}, {"one more than two of it", of(0, 9, 1<<30), 1<<31 + 1, 3},
		{"so little that Min counts", of(3, 9, 10), 19, 3}, {"just Min", of(3, 9, 10), 30, 3}, {"one more than Min", of(3, 9, 10), 31, 4}, {"Min of a load that rounds up to it", of(3, 9, 10), 21, 3},
		{"just Max", of(0, 9, 10), 90, 9}, {"one less than Max", of(0, 9, 10), 80, 8}, {"what rounds up to Max", of(0, 9, 10), 81, 9}, {"so much that Max counts", of(0, 9, 10), 91, 9}, {"far more", of(0, 9, 10), 99999, 9},
		{"Min = Max, of little", of(4, 4, 10), 0, 4}, {"Min = Max, of much", of(4, 4, 10), 999, 4}, {"Min = Max, of just that", of(4, 4, 10), 40, 4},
		{"Min = Max = 0", of(0, 0, 10), 999, 0}, {"Min = Max = 0, of 0", of(0, 0, 10), 0, 0}, {"Min = Max = MaxReplicas", of(1000, 1000, 10), 0, 1000},
		{"MaxReplicas", of(0, 1000, 1), 1000, 1000}, {"one less than MaxReplicas", of(0, 1000, 1), 999, 999}, {"one more than MaxReplicas", of(0, 1000, 1), 1001, 1000},
		{"Top", of(0, 1000, 1<<30), top, 1000}, {"more than Top", of(0, 1000, 1<<30), top + 1, 1000}, {"the greatest load", of(0, 1000, 1<<30), math.MaxInt, 1000}, {"the greatest load, a Goal of 1", of(0, 9, 1), math.MaxInt, 9},
		{"what MaxReplicas carry", of(0, 1000, 1<<30), 1000 << 30, 1000}, {"what 999 carry", of(0, 1000, 1<<30), 999 << 30, 999}, {"one more than 999 carry", of(0, 1000, 1<<30), 999<<30 + 1, 1000},
	} {
		if n, e := Asked(x.p, x.load); n != x.want || e != api.OK {
			t.Errorf("Asked of %s: %d, %d, want %d, OK", x.name, n, e, x.want)
		}
	}
}

// rightPolicies are policies of all sorts of bounds and Goals, their other numbers at both ends.
func rightPolicies() []api.Policy {
	var l []api.Policy
	for _, m := range [][2]int{{0, 0}, {0, 1}, {1, 1}, {0, 9}, {1, 4}, {3, 9}, {5, 6}, {0, 1000}, {7, 1000}, {999, 1000}, {1000, 1000}} {
		for _, goal := range []int{1, 2, 3, 10, 999, 1000, 1 << 20, 1<<30 - 1, 1 << 30} {
			l = append(l, of(m[0], m[1], goal))
		}
	}
	low, high := of(0, 9, 10), of(0, 9, 10)
	low.Slack, low.Up, low.Down, low.Cool = 0, 1, 1, 0
	high.Slack, high.Up, high.Down, high.Cool = 100, 1000, 1000, 1000
	return append(l, low, high)
}

// loads are those at which a policy's answers may turn, in order, and far ones.
func loads(p api.Policy) []int {
	l := []int{math.MinInt, -top, -1000, -1, 0, 1, 2, 3, 42, 1000, top - 1, top, top + 1, math.MaxInt - 1, math.MaxInt}
	for _, n := range []int{1, 2, 3, p.Min - 1, p.Min, p.Min + 1, p.Max - 1, p.Max, p.Max + 1} {
		l = append(l, n*p.Goal-1, n*p.Goal, n*p.Goal+1)
	}
	slices.Sort(l)
	return l
}

// P9.2, P9.3: what is asked is what the document says; more load never asks for fewer; what is asked lies within Min and Max.
func TestAskedAsTold(t *testing.T) {
	for _, p := range rightPolicies() {
		ahead := p.Min
		for _, load := range loads(p) {
			n, e := Asked(p, load)
			if n != toldAsked(p, load) || e != api.OK {
				t.Fatalf("Asked of %v and %d: %d, %d, want %d", p, load, n, e, toldAsked(p, load))
			}
			if n < ahead || n < p.Min || n > p.Max {
				t.Fatalf("Asked of %v and %d: %d, behind %d", p, load, n, ahead)
			}
			ahead = n
		}
	}
}

// P9.3: the same of all loads from 0 to some beyond Max, one above the other: each asks for as many, or one more.
func TestMoreLoadAsksForMore(t *testing.T) {
	for _, p := range []api.Policy{of(0, 9, 10), of(2, 5, 7), of(3, 3, 4), of(0, 1000, 1), of(1, 30, 3)} {
		ahead := p.Min
		for load := range p.Goal*p.Max + 50 {
			n, e := Asked(p, load)
			if e != api.OK || n < ahead || n > ahead+1 || n < p.Min || n > p.Max {
				t.Fatalf("Asked of %v and %d: %d, %d, behind %d", p, load, n, e, ahead)
			}
			ahead = n
		}
		if ahead != p.Max {
			t.Errorf("Asked of %v never comes to Max", p)
		}
	}
}

// wrongPolicies are those that aren't right, each for one reason.
func wrongPolicies() []api.Policy {
	l := []api.Policy{{}, of(5, 4, 10), of(1, 0, 10), of(1000, 999, 10), of(1001, 1001, 10), of(-1, -1, 10), of(math.MinInt, math.MaxInt, 10)}
	for _, x := range []struct {
		number func(p *api.Policy) *int
		bad    []int
	}{
		{func(p *api.Policy) *int { return &p.Min }, []int{-1, math.MinInt, 5, math.MaxInt}},
		{func(p *api.Policy) *int { return &p.Max }, []int{0, -1, math.MinInt, 1001, math.MaxInt}},
		{func(p *api.Policy) *int { return &p.Goal }, []int{0, -1, math.MinInt, 1<<30 + 1, top, math.MaxInt}},
		{func(p *api.Policy) *int { return &p.Slack }, []int{-1, math.MinInt, 101, math.MaxInt}},
		{func(p *api.Policy) *int { return &p.Up }, []int{0, -1, math.MinInt, 1001, math.MaxInt}},
		{func(p *api.Policy) *int { return &p.Down }, []int{0, -1, math.MinInt, 1001, math.MaxInt}},
		{func(p *api.Policy) *int { return &p.Cool }, []int{-1, math.MinInt, 1001, math.MaxInt}},
	} {
		for _, n := range x.bad {
			p := plain()
			*x.number(&p) = n
			l = append(l, p)
		}
	}
	return l
}

// P9.2: a policy that isn't right is refused, at any load; there is nothing beside the error.
func TestAskedOfWrong(t *testing.T) {
	if n, e := Asked(plain(), 25); n != 3 || e != api.OK {
		t.Fatalf("Asked of the right one: %d, %d", n, e)
	}
	for _, p := range wrongPolicies() {
		for _, load := range loads(p) {
			if n, e := Asked(p, load); n != 0 || e != api.ErrArg {
				t.Fatalf("Asked of %v and %d: %d, %d", p, load, n, e)
			}
		}
	}
}

// scribble writes over a list and its spare room; scribbleAll writes over events, and over their Removes.
func scribble[T any](l []T, with T) {
	l = l[:cap(l)]
	for i := range l {
		l[i] = with
	}
}
func scribbleAll(l []api.Event) {
	for _, e := range l {
		scribble(e.Removes, dot(-9, -9))
	}
	scribble(l, api.Event{Dot: dot(-9, -9), Time: math.MaxInt, Kind: api.Set, Work: 3, Removes: []api.Dot{dot(-9, -9)}})
}

// own are events with Removes in memory of their own.
func own(l []api.Event) []api.Event {
	l = slices.Clone(l)
	for i := range l {
		l[i].Removes = slices.Clone(l[i].Removes)
	}
	return l
}

// removing are Sets that remove something, two of them in one memory, one with spare room, one with room alone.
func removing() []api.Event {
	shared := []api.Dot{dot(0, 1), dot(0, 2), dot(0, 3), dot(0, 4)}
	return []api.Event{
		set(dot(1, 2), 2, 3, 1, shared...), set(dot(1, 3), 4, 3, 2, shared...), set(dot(2, 1), 3, 3, 3, shared[:2]...), set(dot(2, 2), 1, 4, 4, shared[1:]...),
		set(dot(3, 1), 5, 3, 5, make([]api.Dot, 0, 4)...), set(dot(4, 1), 6, 3, 6), del(dot(5, 1), 7, 3, shared...), set(dot(6, 1), 8, 3, 7, dot(7, 7)),
	}
}

// Rule 4: what is handed in is not changed, its spare room neither; what an answer hands out, changed afterwards, changes nothing of it.
func TestTouchesNothing(t *testing.T) {
	for n := range len(removing()) + 1 {
		l := removing()
		before := own(l)
		for _, work := range places() {
			scribbleAll(Sets(l[:n], work))
			Winner(l[:n], work)
			if !sameAll(l, before) {
				t.Fatalf("of %v: %v is left", before, l)
			}
		}
		scribble(Works(l[:n]), -9)
		if !sameAll(l, before) {
			t.Fatalf("of %v: %v is left", before, l)
		}
	}
}

// Rule 4: what was handed in, changed afterwards: what was answered stays as it was.
func TestKeepsNothing(t *testing.T) {
	l := removing()
	want := toldSets(own(l), 3)
	sets, works := Sets(l, 3), Works(l)
	p, d, _ := Winner(l, 3)
	scribbleAll(l)
	if !sameAll(sets, want) || !slices.Equal(works, []int{3, 4}) || p != marked(7) || d != dot(6, 1) {
		t.Errorf("%v, %v, %v, %v", sets, works, p, d)
	}
}

// Rule 4: no two lists of an answer share memory, spare room included, where those that were handed in do.
func TestListsApart(t *testing.T) {
	want := toldSets(own(removing()), 3)
	got := Sets(removing(), 3)
	for i := range got {
		scribble(got[i].Removes, dot(-9, -9))
		if !sameAll(got[i+1:], want[i+1:]) {
			t.Fatalf("what stands behind %d shares memory with it", i)
		}
	}
	got = Sets(removing(), 3)
	for i := len(got) - 1; i >= 0; i-- {
		scribble(got[i].Removes, dot(-9, -9))
		if !sameAll(got[:i], want[:i]) {
			t.Fatalf("what stands ahead of %d shares memory with it", i)
		}
	}
}

// Rule 5: what is answered hangs on no call ahead, and no answer is changed by a call behind it.
func TestSameAgain(t *testing.T) {
	l := removing()
	sets, works := Sets(l, 3), Works(l)
	for range 3 {
		scribbleAll(Sets(l, 3))
		scribble(Works(l), 5)
		agrees(t, l)
		agrees(t, few())
		TestExample(t)
	}
	if !sameAll(sets, toldSets(l, 3)) || !slices.Equal(works, []int{3, 4}) {
		t.Errorf("%v, %v", sets, works)
	}
}

// P1: very many events end soon in each call, in whatever order; what hands out no Removes copies none, however long they are.
func TestVeryMany(t *testing.T) {
	var l []api.Event
	for i := range 200000 {
		l = append(l, set(dot(i%8, i%97), i%1000, i%3, i))
	}
	for _, l := range [][]api.Event{l, reverse(l), shuffled(l, 1), slices.Repeat(l[:1], 200000)} {
		sets := Sets(l, 0)
		for i := 1; i < len(sets); i++ {
			if later(sets[i], sets[i-1]) {
				t.Fatalf("%v stands behind %v", sets[i], sets[i-1])
			}
		}
		if p, d, ok := Winner(l, 0); len(sets) < 66666 || p != sets[0].Policy || d != sets[0].Dot || !ok {
			t.Fatalf("%d Sets, Winner %v, %v, %v", len(sets), p, d, ok)
		}
	}
	long := slices.Repeat([]api.Dot{dot(0, 1)}, 1<<16)
	for i := range l[:20000] {
		l[i].Removes = long
	}
	latest := l[1]
	for _, e := range l[:20000] {
		if e.Work == 1 && later(e, latest) {
			latest = e
		}
	}
	if p, d, ok := Winner(l[:20000], 1); p != latest.Policy || d != latest.Dot || !ok {
		t.Errorf("Winner = %v, %v, %v, want %v", p, d, ok, latest.Dot)
	}
	if got := Works(l[:20000]); !slices.Equal(got, []int{0, 1, 2}) {
		t.Errorf("Works = %v", got)
	}
	if got := Sets(l[:20], 2); len(got) != 6 || len(got[5].Removes) != 1<<16 {
		t.Errorf("%d Sets", len(got))
	}
}
