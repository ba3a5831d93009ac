package book

import (
	"math"
	"math/rand"
	"slices"
	"testing"

	"murmur/api"
	"murmur/dotset"
	"murmur/event"
)

const top = api.Top

// dot is one, of two numbers.
func dot(node, seq int) api.Dot { return api.Dot{Node: node, Seq: seq} }

// dots are some, of two numbers each.
func dots(numbers ...int) []api.Dot {
	var l []api.Dot
	for i := 0; i < len(numbers); i += 2 {
		l = append(l, dot(numbers[i], numbers[i+1]))
	}
	return l
}

// world are all dots that may be, in order.
func world() []api.Dot {
	var l []api.Dot
	for node := range 8 {
		for seq := 1; seq <= 96; seq++ {
			l = append(l, dot(node, seq))
		}
	}
	return l
}

// order is the document's order of dots.
func order(a, b api.Dot) int {
	if a.Node != b.Node {
		return a.Node - b.Node
	}
	return a.Seq - b.Seq
}

// sample, set and del are right events of a workload, at the time 1; at is one at another time.
func sample(d api.Dot, work int) api.Event {
	return api.Event{Dot: d, Time: 1, Kind: api.Sample, Work: work, Value: 5}
}
func set(d api.Dot, work int, removes ...api.Dot) api.Event {
	return api.Event{Dot: d, Time: 1, Kind: api.Set, Work: work, Policy: api.Policy{Min: 1, Max: 5, Goal: 10, Slack: 20, Up: 2, Down: 3, Cool: 4}, Removes: removes}
}
func del(d api.Dot, work int, removes ...api.Dot) api.Event {
	return api.Event{Dot: d, Time: 1, Kind: api.Del, Work: work, Removes: removes}
}
func at(time int, e api.Event) api.Event {
	e.Time = time
	return e
}

// same says whether two events are the same, Removes of nil and none too.
func same(a, b api.Event) bool {
	return a.Dot == b.Dot && a.Time == b.Time && a.Kind == b.Kind && a.Work == b.Work && a.Value == b.Value && a.Policy == b.Policy && slices.Equal(a.Removes, b.Removes)
}

// sameAll says it of lists, sameSet of sets.
func sameAll(a, b []api.Event) bool { return slices.EqualFunc(a, b, same) }
func sameSet(a, b dotset.Set) bool  { return a.Upto == b.Upto && slices.Equal(a.More, b.More) }

// own is an event with Removes in memory of its own.
func own(e api.Event) api.Event {
	e.Removes = slices.Clone(e.Removes)
	return e
}

// dotsOf are the dots of events.
func dotsOf(l []api.Event) []api.Dot { return mapped(l, func(e api.Event) api.Dot { return e.Dot }) }

// join is lists behind one another, in new memory; reverse is a list from its end.
func join[T any](l ...[]T) []T { return slices.Concat(l...) }
func reverse[T any](l []T) []T {
	l = slices.Clone(l)
	slices.Reverse(l)
	return l
}

// mapped is what a function makes of each of a list.
func mapped[A, B any](l []A, f func(A) B) []B {
	var out []B
	for _, x := range l {
		out = append(out, f(x))
	}
	return out
}

// setOf is the right set of some dots, by the document's words: Upto as great as can be, the others behind.
func setOf(l []api.Dot) dotset.Set {
	l = slices.Compact(slices.SortedFunc(slices.Values(l), order))
	var s dotset.Set
	for _, d := range l {
		if d.Seq == s.Upto[d.Node]+1 {
			s.Upto[d.Node]++
		} else {
			s.More = append(s.More, d)
		}
	}
	return s
}

// full is the set of all dots.
func full() dotset.Set { return setOf(world()) }

// bookOf is one to which these were added, each of which must go well.
func bookOf(t *testing.T, l ...api.Event) *Book {
	t.Helper()
	b := New()
	for _, e := range l {
		if got := b.Add(e); got != api.OK {
			t.Fatalf("Add of %v = %d", e, got)
		}
	}
	return b
}

// told is a book by the document's words, without any map or set: all that came and was taken, in the order in which it came.
type told struct{ came []api.Event }

// isSeen says whether a dot came, or one that came removes it.
func (m *told) isSeen(d api.Dot) bool {
	return slices.ContainsFunc(m.came, func(e api.Event) bool { return e.Dot == d || slices.Contains(e.Removes, d) })
}

// add takes an event, or says what the document says against it.
func (m *told) add(e api.Event) api.Errno {
	if !event.Right(e) {
		return api.ErrArg
	}
	if m.isSeen(e.Dot) {
		return api.ErrTwice
	}
	m.came = append(m.came, own(e))
	return api.OK
}

// seen are the dots that are seen, in order.
func (m *told) seen() []api.Dot {
	var l []api.Dot
	for _, e := range m.came {
		l = append(append(l, e.Dot), e.Removes...)
	}
	slices.SortFunc(l, order)
	return slices.Compact(l)
}

// events are those that hold: none that came later removes them.
func (m *told) events() []api.Event {
	var l []api.Event
	for i, e := range m.came {
		gone := slices.ContainsFunc(m.came[i+1:], func(x api.Event) bool { return slices.Contains(x.Removes, e.Dot) })
		if !gone {
			l = append(l, e)
		}
	}
	slices.SortFunc(l, func(a, b api.Event) int { return order(a.Dot, b.Dot) })
	return l
}

// newer are those that hold that a right set hasn't.
func (m *told) newer(s dotset.Set, most int) []api.Event {
	var l []api.Event
	for _, e := range m.events() {
		in := e.Dot.Seq <= s.Upto[e.Dot.Node] || slices.Contains(s.More, e.Dot)
		if !in && len(l) < most {
			l = append(l, e)
		}
	}
	return l
}

// stands is what a workload's Sets and Dels that hold are, and remove.
func (m *told) stands(work int) ([]api.Dot, api.Errno) {
	var l []api.Dot
	for _, e := range m.events() {
		if e.Work == work && (e.Kind == api.Set || e.Kind == api.Del) {
			l = append(append(l, e.Dot), e.Removes...)
		}
	}
	slices.SortFunc(l, order)
	l = slices.Compact(l)
	if len(l) > 96 {
		return nil, api.ErrFull
	}
	return l, api.OK
}

// clock and last are the greatest Time that came, and the greatest Seq of a node that is seen.
func (m *told) clock() int {
	n := 0
	for _, e := range m.came {
		n = max(n, e.Time)
	}
	return n
}
func (m *told) last(node int) int {
	n := 0
	for _, d := range m.seen() {
		if d.Node == node {
			n = max(n, d.Seq)
		}
	}
	return n
}

// edges are numbers about which workloads and nodes may be, and beyond.
func edges() []int { return []int{-1, 0, 1, 2, 3, 7, 8, 9, math.MinInt, math.MaxInt} }

// agrees: all that a book answers is what the document says.
func agrees(t *testing.T, b *Book, m *told) {
	t.Helper()
	seen, events := m.seen(), m.events()
	if got := b.Seen(); !sameSet(got, setOf(seen)) {
		t.Fatalf("behind %v: Seen = %v, want %v", m.came, got, seen)
	}
	if got := b.Events(); !sameAll(got, events) {
		t.Fatalf("behind %v: Events = %v, want %v", m.came, got, events)
	}
	if got := b.Clock(); got != m.clock() {
		t.Fatalf("behind %v: Clock = %d, want %d", m.came, got, m.clock())
	}
	for _, n := range edges() {
		if got := b.Last(n); got != m.last(n) {
			t.Fatalf("behind %v: Last(%d) = %d, want %d", m.came, n, got, m.last(n))
		}
		want, e := m.stands(n)
		if got, err := b.Stands(n); !slices.Equal(got, want) || err != e {
			t.Fatalf("behind %v: Stands(%d) = %v, %d, want %v, %d", m.came, n, got, err, want, e)
		}
	}
	sets := []dotset.Set{{}, setOf(seen), full()}
	if len(seen) > 1 {
		sets = append(sets, setOf(seen[1:]), setOf(seen[:1]), setOf(seen[len(seen)/2:]))
	}
	for _, s := range sets {
		for _, most := range []int{math.MinInt, -1, 0, 1, len(events) - 1, len(events), len(events) + 1, math.MaxInt} {
			if got, want := b.Newer(s, most), m.newer(s, most); !sameAll(got, want) {
				t.Fatalf("behind %v: Newer(%v, %d) = %v, want %v", m.came, s, most, got, want)
			}
		}
	}
}

// P8.1, P8.2: the document's example.
func TestExample(t *testing.T) {
	b := New()
	old, young := set(dot(0, 1), 0), set(dot(1, 1), 0, dot(0, 1))
	if e := b.Add(old); e != api.OK {
		t.Fatal(e)
	}
	if got := b.Events(); !sameAll(got, []api.Event{old}) {
		t.Errorf("Events = %v", got)
	}
	if e := b.Add(young); e != api.OK {
		t.Fatal(e)
	}
	if got := b.Events(); !sameAll(got, []api.Event{young}) {
		t.Errorf("Events = %v", got)
	}
	if got := b.Seen(); !sameSet(got, dotset.Set{Upto: [8]int{1, 1}}) {
		t.Errorf("Seen = %v", got)
	}
	if e := b.Add(old); e != api.ErrTwice {
		t.Errorf("Add again = %d", e)
	}
	if got, e := b.Stands(0); !slices.Equal(got, dots(0, 1, 1, 1)) || e != api.OK {
		t.Errorf("Stands = %v, %d", got, e)
	}
}

// P8.1, P8.2, P1: of a nil Book each answer is zero, of Add and Stands ErrNil, whatever is asked.
func TestNil(t *testing.T) {
	var b *Book
	for _, e := range append(wrongs(), sample(dot(0, 1), 0), set(dot(0, 1), 0), del(dot(7, 96), 7, dot(0, 1))) {
		if got := b.Add(e); got != api.ErrNil {
			t.Errorf("Add(%v) = %d", e, got)
		}
	}
	for _, n := range edges() {
		if l, e := b.Stands(n); len(l) != 0 || e != api.ErrNil {
			t.Errorf("Stands(%d) = %v, %d", n, l, e)
		}
		if got := b.Last(n); got != 0 {
			t.Errorf("Last(%d) = %d", n, got)
		}
		for _, s := range append(wrongSets(), dotset.Set{}, full()) {
			if got := b.Newer(s, n); len(got) != 0 {
				t.Errorf("Newer(%v, %d) = %v", s, n, got)
			}
		}
	}
	if !sameSet(b.Seen(), dotset.Set{}) || len(b.Events()) != 0 || b.Clock() != 0 {
		t.Errorf("%v, %v, %d", b.Seen(), b.Events(), b.Clock())
	}
}

// P8.1, P8.2: a book that knows nothing, made by New or not.
func TestNothing(t *testing.T) {
	for _, b := range []*Book{New(), {}, new(Book)} {
		agrees(t, b, &told{})
		m := &told{}
		e := del(dot(1, 1), 2, dot(0, 3))
		if got := b.Add(e); got != api.OK || m.add(e) != api.OK {
			t.Fatalf("Add = %d", got)
		}
		agrees(t, b, m)
	}
	if New() == nil {
		t.Error("New is nil")
	}
}

// wrongs are events that aren't right, each for one reason, most of them with a dot that may be.
func wrongs() []api.Event {
	bad := set(dot(0, 1), 0)
	bad.Policy.Goal = 0
	valued := del(dot(0, 1), 0)
	valued.Value = 1
	other := sample(dot(0, 1), 0)
	other.Kind = 4
	removing := sample(dot(0, 1), 0)
	removing.Removes = dots(1, 1)
	return []api.Event{
		{}, {Dot: dot(0, 1), Time: 1, Work: 2}, bad, valued, other, removing,
		at(0, sample(dot(0, 1), 0)), at(-1, sample(dot(0, 1), 0)), at(top+1, sample(dot(0, 1), 0)), at(math.MaxInt, set(dot(0, 1), 0)),
		sample(dot(-1, 1), 0), sample(dot(8, 1), 0), sample(dot(0, 0), 0), sample(dot(0, 97), 0), sample(dot(math.MaxInt, math.MinInt), 0),
		sample(dot(0, 1), -1), sample(dot(0, 1), 8),
		set(dot(0, 1), 0, dots(0, 1)...), del(dot(0, 1), 0, dots(0, 3, 0, 2)...), del(dot(0, 1), 0, dots(0, 2, 0, 2)...),
		del(dot(0, 1), 0, dots(8, 1)...), set(dot(0, 1), 0, dots(0, 0)...), set(dot(0, 1), 0, dots(1, 1, 1, 97)...),
		del(dot(0, 1), 0, world()[1:98]...),
	}
}

// wrongSets are sets that aren't right.
func wrongSets() []dotset.Set {
	return []dotset.Set{
		{Upto: [8]int{97}}, {Upto: [8]int{-1}}, {Upto: [8]int{96, 96, 96, 96, 96, 96, 96, 97}}, {Upto: [8]int{96, 96, 96, 96, 96, 96, 96, -1}},
		{More: dots(0, 1)}, {More: dots(0, 4, 0, 2)}, {More: dots(1, 2, 1, 2)}, {More: dots(8, 2)}, {More: dots(-1, 2)}, {More: dots(0, 97)},
		{Upto: [8]int{3, 3, 3}, More: dots(0, 2)}, {Upto: [8]int{3, 3, 3}, More: dots(0, 4)}, {Upto: [8]int{math.MinInt, math.MaxInt}},
	}
}

// some is a book with events of all sorts, and what the document says of it.
func some(t *testing.T) (*Book, *told) {
	t.Helper()
	l := []api.Event{
		at(9, set(dot(3, 2), 1)), at(5, sample(dot(1, 1), 1)), at(4, set(dot(2, 4), 1, dots(0, 2, 3, 2)...)),
		at(7, sample(dot(0, 5), 2)), at(3, del(dot(5, 1), 2, dots(0, 1, 0, 3, 6, 96)...)), at(2, set(dot(7, 96), 2, dots(0, 1)...)),
	}
	m := &told{}
	for _, e := range l {
		if got := m.add(e); got != api.OK {
			t.Fatal(got)
		}
	}
	b := bookOf(t, l...)
	agrees(t, b, m)
	return b, m
}

// P8.1, rule 1: an event that isn't right is refused, and changes nothing; one whose dot is seen, too.
func TestAddOfWrong(t *testing.T) {
	for _, e := range wrongs() {
		empty := New()
		if got := empty.Add(e); got != api.ErrArg {
			t.Errorf("Add(%v) = %d", e, got)
		}
		agrees(t, empty, &told{})
		// In this one 0 1 is seen: what isn't right is told first.
		b, m := some(t)
		if got := b.Add(e); got != api.ErrArg {
			t.Errorf("Add(%v) = %d", e, got)
		}
		agrees(t, b, m)
	}
}

// P8.1: one whose dot is seen is refused, and changes nothing: neither its Removes nor its Time are known then.
func TestAddTwice(t *testing.T) {
	came := dots(3, 2, 1, 1, 2, 4, 0, 5, 5, 1, 7, 96)
	removed := dots(0, 2, 0, 1, 0, 3, 6, 96)
	b, m := some(t)
	for _, d := range join(came, removed) {
		for _, e := range []api.Event{sample(d, 3), set(d, 3), at(100, set(d, 1, dots(4, 4)...)), at(top, del(d, 2, dots(4, 4, 4, 5)...)), at(100, sample(d, 0))} {
			if got := b.Add(e); got != api.ErrTwice {
				t.Errorf("Add(%v) = %d", e, got)
			}
		}
		agrees(t, b, m)
	}
	// Those that came, once more, as they were.
	for _, e := range m.came {
		if got := b.Add(e); got != api.ErrTwice {
			t.Errorf("Add(%v) again = %d", e, got)
		}
	}
	agrees(t, b, m)
}

// P8.1: an event that removes what holds, what was never seen, and what was removed already.
func TestRemoves(t *testing.T) {
	for _, x := range []struct {
		name  string
		come  []api.Event
		holds []api.Dot
		seen  []api.Dot
	}{
		{"what holds", []api.Event{set(dot(0, 1), 0), set(dot(0, 2), 0, dots(0, 1)...)}, dots(0, 2), dots(0, 1, 0, 2)},
		{"what was never seen", []api.Event{set(dot(0, 2), 0, dots(0, 1, 5, 9)...)}, dots(0, 2), dots(0, 1, 0, 2, 5, 9)},
		{"what was removed already", []api.Event{set(dot(0, 1), 0), set(dot(1, 1), 0, dots(0, 1)...), set(dot(2, 1), 0, dots(0, 1)...)}, dots(1, 1, 2, 1), dots(0, 1, 1, 1, 2, 1)},
		{"all three", []api.Event{set(dot(0, 1), 0), set(dot(0, 2), 0, dots(0, 1)...), set(dot(0, 3), 0), del(dot(7, 1), 0, dots(0, 1, 0, 3, 4, 4)...)}, dots(0, 2, 7, 1), dots(0, 1, 0, 2, 0, 3, 4, 4, 7, 1)},
		{"one that removes", []api.Event{set(dot(0, 1), 0), set(dot(0, 2), 0, dots(0, 1)...), set(dot(0, 3), 0, dots(0, 2)...)}, dots(0, 3), dots(0, 1, 0, 2, 0, 3)},
		{"a Sample", []api.Event{sample(dot(0, 1), 0), set(dot(0, 2), 0, dots(0, 1)...)}, dots(0, 2), dots(0, 1, 0, 2)},
		{"another workload's", []api.Event{set(dot(0, 1), 3), del(dot(0, 2), 4, dots(0, 1)...)}, dots(0, 2), dots(0, 1, 0, 2)},
		{"several", []api.Event{set(dot(4, 1), 0), set(dot(4, 2), 0), set(dot(4, 3), 0), del(dot(0, 1), 0, dots(4, 1, 4, 3)...)}, dots(0, 1, 4, 2), dots(0, 1, 4, 1, 4, 2, 4, 3)},
		{"all", []api.Event{set(dot(4, 1), 0), sample(dot(4, 2), 1), del(dot(4, 3), 0), del(dot(0, 1), 0, dots(4, 1, 4, 2, 4, 3)...)}, dots(0, 1), dots(0, 1, 4, 1, 4, 2, 4, 3)},
		{"nothing", []api.Event{set(dot(4, 1), 0), del(dot(0, 1), 0), sample(dot(5, 1), 0)}, dots(0, 1, 4, 1, 5, 1), dots(0, 1, 4, 1, 5, 1)},
		{"a neighbour", []api.Event{set(dot(4, 1), 0), set(dot(4, 2), 0), set(dot(3, 2), 0), set(dot(5, 2), 0, dots(4, 2)...)}, dots(3, 2, 4, 1, 5, 2), dots(3, 2, 4, 1, 4, 2, 5, 2)},
		{"MaxRemoves", []api.Event{set(dot(0, 1), 0), sample(dot(0, 96), 0), sample(dot(1, 1), 1), del(dot(1, 96), 0, world()[:96]...)}, dots(1, 1, 1, 96), append(slices.Clone(world()[:97]), dot(1, 96))},
	} {
		b := bookOf(t, x.come...)
		if got := dotsOf(b.Events()); !slices.Equal(got, x.holds) {
			t.Errorf("removing %s: Events are %v, want %v", x.name, got, x.holds)
		}
		if got := b.Seen(); !dotset.Right(got) || !slices.Equal(dotset.List(got), x.seen) {
			t.Errorf("removing %s: Seen = %v, want %v", x.name, got, x.seen)
		}
	}
}

// P8.1: an event that was removed ahead of its coming is no more taken.
func TestRemovedAhead(t *testing.T) {
	b := bookOf(t, set(dot(1, 1), 0, dots(0, 1, 0, 2)...))
	for _, e := range []api.Event{set(dot(0, 1), 0), del(dot(0, 2), 0, dots(1, 1)...), sample(dot(0, 1), 0)} {
		if got := b.Add(e); got != api.ErrTwice {
			t.Errorf("Add(%v) = %d", e, got)
		}
	}
	if got := dotsOf(b.Events()); !slices.Equal(got, dots(1, 1)) {
		t.Errorf("Events are %v", got)
	}
}

// permutations are all orders of a list.
func permutations[T any](l []T) [][]T {
	if len(l) == 0 {
		return [][]T{nil}
	}
	var out [][]T
	for i := range l {
		rest := join(l[:i], l[i+1:])
		for _, p := range permutations(rest) {
			out = append(out, append([]T{l[i]}, p...))
		}
	}
	return out
}

// P8.1: Events, Newer and Stands stand in order of their dots, whatever the order in which they came.
func TestInOrder(t *testing.T) {
	want := dots(0, 1, 0, 2, 0, 10, 1, 1, 2, 96, 7, 3)
	l := mapped(want, func(d api.Dot) api.Event { return set(d, 4) })
	for _, p := range permutations(l) {
		b := bookOf(t, p...)
		newer := b.Newer(dotset.Set{}, 99)
		stands, _ := b.Stands(4)
		if !sameAll(b.Events(), l) || !sameAll(newer, l) || !slices.Equal(stands, want) {
			t.Fatalf("behind %v: %v, %v, %v", dotsOf(p), b.Events(), newer, stands)
		}
	}
	// All dots that there are.
	all := mapped(world(), func(d api.Dot) api.Event { return sample(d, d.Seq%8) })
	for _, p := range [][]api.Event{all, reverse(all), shuffled(all)} {
		b := bookOf(t, p...)
		if !sameAll(b.Events(), all) || !sameSet(b.Seen(), full()) {
			t.Error("events of all dots are out of order")
		}
	}
}

// shuffled is a list in an order by chance, the same one whenever it is asked for.
func shuffled[T any](l []T) []T {
	l = slices.Clone(l)
	rand.New(rand.NewSource(8)).Shuffle(len(l), func(i, k int) { l[i], l[k] = l[k], l[i] })
	return l
}

// P8.2: Newer, by cases written out.
func TestNewer(t *testing.T) {
	b, _ := some(t)
	all := dots(0, 5, 1, 1, 2, 4, 5, 1, 7, 96)
	for _, x := range []struct {
		name string
		s    dotset.Set
		most int
		want []api.Dot
	}{
		{"nothing", dotset.Set{}, 99, all},
		{"nothing, an empty More", dotset.Set{More: []api.Dot{}}, 99, all},
		{"all that there is", full(), 99, nil},
		{"all that it has seen", b.Seen(), 99, nil},
		{"those that hold", setOf(all), 99, nil},
		{"what holds no more", setOf(dots(3, 2, 0, 1, 0, 2, 0, 3)), 99, all},
		{"others", setOf(dots(4, 1, 4, 2, 7, 95)), 99, all},
		{"one of More", dotset.Set{More: dots(2, 4)}, 99, dots(0, 5, 1, 1, 5, 1, 7, 96)},
		{"one of Upto", dotset.Set{Upto: [8]int{0, 1}}, 99, dots(0, 5, 2, 4, 5, 1, 7, 96)},
		{"an Upto right below", dotset.Set{Upto: [8]int{4, 0, 3}}, 99, all},
		{"an Upto at it", dotset.Set{Upto: [8]int{5, 0, 4}}, 99, dots(1, 1, 5, 1, 7, 96)},
		{"an Upto above", dotset.Set{Upto: [8]int{96, 2, 5, 0, 0, 1}}, 99, dots(7, 96)},
		{"both", dotset.Set{Upto: [8]int{6, 0, 0, 0, 0, 2}, More: dots(2, 4, 7, 96)}, 99, dots(1, 1)},
		{"most -1", dotset.Set{}, -1, nil},
		{"most of the least number", dotset.Set{}, math.MinInt, nil},
		{"most 0", dotset.Set{}, 0, nil},
		{"most 1", dotset.Set{}, 1, dots(0, 5)},
		{"most 2", dotset.Set{}, 2, dots(0, 5, 1, 1)},
		{"most 4", dotset.Set{}, 4, dots(0, 5, 1, 1, 2, 4, 5, 1)},
		{"as many as there are", dotset.Set{}, 5, all},
		{"one more", dotset.Set{}, 6, all},
		{"most of the greatest number", dotset.Set{}, math.MaxInt, all},
		{"most 1 behind a set", dotset.Set{Upto: [8]int{5}}, 1, dots(1, 1)},
		{"most 2 of what is left", dotset.Set{Upto: [8]int{5}, More: dots(2, 4)}, 2, dots(1, 1, 5, 1)},
		{"as many as are left", dotset.Set{Upto: [8]int{5}, More: dots(2, 4)}, 3, dots(1, 1, 5, 1, 7, 96)},
		{"one more than are left", dotset.Set{Upto: [8]int{5}, More: dots(2, 4)}, 4, dots(1, 1, 5, 1, 7, 96)},
		{"most -1 of all", full(), -1, nil},
	} {
		if got := dotsOf(b.Newer(x.s, x.most)); !slices.Equal(got, x.want) {
			t.Errorf("Newer of %s: %v, want %v", x.name, got, x.want)
		}
	}
}

// P8.2: a set that isn't right has none.
func TestNewerOfWrongSets(t *testing.T) {
	b, _ := some(t)
	for _, s := range wrongSets() {
		if got := b.Newer(s, 99); !sameAll(got, b.Events()) {
			t.Errorf("Newer(%v, 99) = %v", s, got)
		}
		if got := b.Newer(s, 2); !sameAll(got, b.Events()[:2]) {
			t.Errorf("Newer(%v, 2) = %v", s, got)
		}
		if got := b.Newer(s, -1); len(got) != 0 {
			t.Errorf("Newer(%v, -1) = %v", s, got)
		}
	}
}

// P8.2: Stands, by cases written out.
func TestStands(t *testing.T) {
	for _, x := range []struct {
		name string
		come []api.Event
		want []api.Dot
	}{
		{"none", nil, nil},
		{"Samples alone", []api.Event{sample(dot(0, 1), 3), sample(dot(1, 1), 3)}, nil},
		{"others' alone", []api.Event{set(dot(0, 1), 2), del(dot(1, 1), 4), del(dot(2, 1), 0), set(dot(3, 1), 7)}, nil},
		{"a Set", []api.Event{set(dot(0, 1), 3)}, dots(0, 1)},
		{"a Del", []api.Event{del(dot(0, 1), 3)}, dots(0, 1)},
		{"a Set, others' and Samples", []api.Event{set(dot(0, 1), 3), sample(dot(0, 2), 3), set(dot(0, 3), 2), del(dot(0, 4), 4)}, dots(0, 1)},
		{"a Set and a Del", []api.Event{set(dot(4, 1), 3), del(dot(0, 1), 3)}, dots(0, 1, 4, 1)},
		{"Removes that weren't seen", []api.Event{del(dot(4, 1), 3, dots(0, 1, 6, 6)...)}, dots(0, 1, 4, 1, 6, 6)},
		{"Removes that they share", []api.Event{set(dot(4, 1), 3, dots(0, 1, 0, 2)...), del(dot(1, 1), 3, dots(0, 2, 0, 3)...)}, dots(0, 1, 0, 2, 0, 3, 1, 1, 4, 1)},
		{"Removes all of which they share", []api.Event{set(dot(4, 1), 3, dots(0, 1, 0, 2)...), del(dot(1, 1), 3, dots(0, 1, 0, 2)...), set(dot(2, 1), 3, dots(0, 1, 0, 2)...)}, dots(0, 1, 0, 2, 1, 1, 2, 1, 4, 1)},
		{"what holds no more", []api.Event{set(dot(0, 1), 3), set(dot(1, 1), 3, dots(0, 1)...)}, dots(0, 1, 1, 1)},
		{"Removes of what holds no more", []api.Event{set(dot(0, 1), 3, dots(5, 5)...), set(dot(1, 1), 3, dots(0, 1)...)}, dots(0, 1, 1, 1)},
		{"removed by another workload's", []api.Event{set(dot(0, 1), 3), del(dot(1, 1), 4, dots(0, 1)...)}, nil},
		{"a Sample that it removes", []api.Event{sample(dot(0, 1), 3), set(dot(1, 1), 3, dots(0, 1)...)}, dots(0, 1, 1, 1)},
		{"another workload's that it removes", []api.Event{set(dot(0, 1), 4), set(dot(1, 1), 3, dots(0, 1)...)}, dots(0, 1, 1, 1)},
		{"Removes ahead and behind", []api.Event{set(dot(3, 5), 3, dots(3, 4, 3, 6)...)}, dots(3, 4, 3, 5, 3, 6)},
	} {
		b := bookOf(t, x.come...)
		if got, e := b.Stands(3); !slices.Equal(got, x.want) || e != api.OK {
			t.Errorf("Stands of %s: %v, %d, want %v, OK", x.name, got, e, x.want)
		}
	}
}

// P8.2: a Work that there is not has none.
func TestStandsOfOtherWorks(t *testing.T) {
	b := New()
	for work := range 8 {
		b.Add(set(dot(work, 3), work, dot(work, 1)))
	}
	for work := range 8 {
		if got, e := b.Stands(work); !slices.Equal(got, dots(work, 1, work, 3)) || e != api.OK {
			t.Errorf("Stands(%d) = %v, %d", work, got, e)
		}
	}
	for _, work := range []int{-1, 8, 9, -8, 256, 1 << 32, top, math.MinInt, math.MaxInt} {
		if got, e := b.Stands(work); len(got) != 0 || e != api.OK {
			t.Errorf("Stands(%d) = %v, %d", work, got, e)
		}
	}
}

// P8.2: Stands of MaxRemoves dots, and of one more, by dots of their own, by Removes, and by both.
func TestStandsFull(t *testing.T) {
	all := mapped(world(), func(d api.Dot) api.Event { return del(d, 3) })
	one := func(n int) []api.Event { return []api.Event{set(dot(7, 96), 3, world()[:n]...)} }
	shared := []api.Event{set(dot(7, 1), 3, world()[:50]...), set(dot(7, 2), 3, world()[40:90]...), del(dot(7, 3), 3, world()[:93]...)}
	for _, x := range []struct {
		name string
		come []api.Event
		want int
	}{
		{"95 events", all[:95], 95}, {"96 events", all[:96], 96}, {"97 events", all[:97], -1}, {"98 events", all[:98], -1}, {"all events", all, -1},
		{"94 Removes and one", one(94), 95}, {"95 Removes and one", one(95), 96}, {"96 Removes and one", one(96), -1},
		{"96 that are shared", shared, 96},
		{"97 that are shared", append(join(shared), del(dot(7, 4), 3, world()[:93]...)), -1},
		{"96, and others'", append(join(shared), del(dot(7, 4), 4), sample(dot(7, 5), 3)), 96},
		{"97, one of which is gone", append(join(all[:97]), set(dot(7, 96), 4, world()[0])), 96},
		{"97, and a removal", append(join(all[:96]), set(dot(7, 96), 3, world()[:95]...)), -1},
		{"96, and a removal", append(join(all[:95]), set(dot(7, 96), 3, world()[:95]...)), 96},
	} {
		b := bookOf(t, x.come...)
		got, e := b.Stands(3)
		if x.want < 0 && (len(got) != 0 || e != api.ErrFull) {
			t.Errorf("Stands of %s: %v, %d", x.name, got, e)
		}
		if x.want >= 0 && (len(got) != x.want || e != api.OK || !slices.IsSortedFunc(got, order)) {
			t.Errorf("Stands of %s: %d dots, %d, want %d", x.name, len(got), e, x.want)
		}
		// It is full of this workload alone, and the book goes on.
		if got, e := b.Stands(5); len(got) != 0 || e != api.OK {
			t.Errorf("%s: Stands(5) = %v, %d", x.name, got, e)
		}
	}
}

// P8.2: Clock of none, of a Time that is less than one ahead, of an event that holds no more.
func TestClock(t *testing.T) {
	b := New()
	for i, x := range []struct {
		e    api.Event
		want int
	}{
		{api.Event{}, 0},
		{at(5, sample(dot(0, 1), 0)), 5},
		{at(3, sample(dot(0, 2), 0)), 5},
		{at(5, sample(dot(0, 3), 0)), 5},
		{at(9, set(dot(0, 4), 0)), 9},
		{at(4, del(dot(0, 5), 0, dot(0, 4))), 9},
		{at(99, set(dot(0, 4), 0)), 9},
		{at(98, set(dot(0, 1), 0)), 9},
		{at(top+1, set(dot(1, 1), 0)), 9},
		{at(2, set(dot(1, 1), 0, dot(0, 1), dot(2, 2))), 9},
		{at(97, set(dot(2, 2), 0)), 9},
		{at(top, sample(dot(1, 2), 0)), top},
		{at(1, sample(dot(1, 3), 0)), top},
	} {
		b.Add(x.e)
		if got := b.Clock(); got != x.want {
			t.Errorf("behind event %d: Clock = %d, want %d", i, got, x.want)
		}
	}
}

// P8.2: Last of a node without dots, of one whose greatest dot was only removed, of none.
func TestLast(t *testing.T) {
	b := bookOf(t,
		sample(dot(0, 1), 0), sample(dot(0, 2), 0), // Upto alone
		sample(dot(1, 7), 0), sample(dot(1, 3), 0), // More alone, the greatest first
		sample(dot(2, 1), 0), sample(dot(2, 3), 0), // both
		del(dot(3, 2), 0, dots(3, 5, 4, 96, 6, 1)...), // the greatest was only removed
		set(dot(7, 96), 0),
	)
	want := []int{2, 7, 3, 5, 96, 0, 1, 96}
	for node, last := range want {
		if got := b.Last(node); got != last {
			t.Errorf("Last(%d) = %d, want %d", node, got, last)
		}
	}
	for _, node := range []int{-1, 8, 9, -8, 256, 1 << 32, math.MinInt, math.MaxInt} {
		if got := b.Last(node); got != 0 {
			t.Errorf("Last(%d) = %d", node, got)
		}
	}
	// An event that holds no more, and one that is refused.
	b.Add(del(dot(5, 1), 0, dots(2, 3)...))
	b.Add(del(dot(5, 1), 0, dots(2, 9)...))
	b.Add(del(dot(5, 97), 0, dots(2, 9)...))
	if b.Last(2) != 3 || b.Last(5) != 1 {
		t.Errorf("%d, %d", b.Last(2), b.Last(5))
	}
}

// few are all events of three dots that remove some of the others, and some that aren't right.
func few() []api.Event {
	three := dots(0, 1, 0, 3, 2, 2)
	var l []api.Event
	for i, d := range three {
		a, b := three[(i+1)%3], three[(i+2)%3]
		if order(a, b) > 0 {
			a, b = b, a
		}
		l = append(l, sample(d, 1), at(3, set(d, 1)), at(2, del(d, 1, a)), at(4-i, set(d, 2, b)), at(1+i, del(d, 1, a, b)))
	}
	return append(l, sample(dot(0, 0), 1), del(dot(0, 1), 1, dots(0, 3, 0, 2)...))
}

// P8.1, P8.2: what three events that come one behind the other leave, of all that a few can be, is what the document says.
func TestAsTold(t *testing.T) {
	l := few()
	for _, x := range l {
		for _, y := range l {
			for _, z := range l {
				b, m := New(), &told{}
				for _, e := range []api.Event{x, y, z} {
					if got, want := b.Add(e), m.add(e); got != want {
						t.Fatalf("behind %v: Add(%v) = %d, want %d", m.came, e, got, want)
					}
				}
				agrees(t, b, m)
			}
		}
	}
}

// P8.1, P8.2: the same of many events by chance, with Removes of any dots, each step of the way.
func TestManyAsTold(t *testing.T) {
	chance := rand.New(rand.NewSource(9))
	for round := range 12 {
		b, m := New(), &told{}
		nodes, seqs, removes := 1+chance.Intn(8), 1+chance.Intn(96), chance.Intn(9)
		for step := range 60 {
			e := byChance(chance, nodes, seqs, removes)
			if got, want := b.Add(e), m.add(e); got != want {
				t.Fatalf("behind %v: Add(%v) = %d, want %d", m.came, e, got, want)
			}
			if step%(1+round) == 0 || step == 59 {
				agrees(t, b, m)
			}
		}
	}
}

// byChance is an event of so many nodes and Seqs at most, with about so many Removes.
func byChance(chance *rand.Rand, nodes, seqs, removes int) api.Event {
	any := func() api.Dot { return dot(chance.Intn(nodes), 1+chance.Intn(seqs)) }
	e := [](func(api.Dot, int, ...api.Dot) api.Event){set, del}[chance.Intn(2)](any(), chance.Intn(3))
	e.Time = 1 + chance.Intn(100)
	if chance.Intn(3) == 0 {
		return at(e.Time, sample(e.Dot, e.Work))
	}
	for range removes {
		// A few are the event's own, and then it isn't right.
		e.Removes = append(e.Removes, any())
	}
	slices.SortFunc(e.Removes, order)
	e.Removes = slices.Compact(e.Removes)
	return e
}

// closedFamilies are closed events: no two of one dot, and each one that removes another removes all that that one removes.
func closedFamilies() [][]api.Event {
	l := [][]api.Event{
		nil,
		{set(dot(0, 1), 0)},
		// The document's example.
		{set(dot(0, 1), 0), set(dot(1, 1), 0, dots(0, 1)...)},
		// A chain, each removing all ahead of it.
		{set(dot(3, 1), 0), set(dot(2, 1), 0, dots(3, 1)...), set(dot(1, 1), 0, dots(2, 1, 3, 1)...), del(dot(0, 1), 0, dots(1, 1, 2, 1, 3, 1)...), set(dot(0, 2), 0, dots(0, 1, 1, 1, 2, 1, 3, 1)...)},
		// Two apart remove the same, and one removes both.
		{set(dot(0, 1), 0), set(dot(1, 1), 0, dots(0, 1)...), del(dot(2, 1), 0, dots(0, 1)...), sample(dot(5, 1), 0), set(dot(3, 1), 0, dots(0, 1, 1, 1, 2, 1)...)},
		// Removes of dots whose events never come.
		{set(dot(0, 2), 0, dots(0, 1, 7, 96)...), set(dot(1, 1), 0, dots(0, 1, 0, 2, 6, 6, 7, 96)...), sample(dot(6, 5), 1), del(dot(2, 1), 1, dots(7, 96)...)},
		// One that removes a Sample, and one of another workload.
		{sample(dot(0, 1), 0), set(dot(0, 2), 5, dots(0, 1)...), del(dot(0, 3), 6, dots(0, 1, 0, 2)...), sample(dot(0, 4), 0)},
	}
	for i := range 4 {
		l = append(l, closedByChance(int64(i), 6-i%2))
	}
	return l
}

// closedByChance are n closed events: each removes some ahead of it, and then all that those remove.
func closedByChance(seed int64, n int) []api.Event {
	chance := rand.New(rand.NewSource(seed))
	places := slices.Clone(world())
	chance.Shuffle(len(places), func(i, k int) { places[i], places[k] = places[k], places[i] })
	var l []api.Event
	for i := range n {
		e := set(places[i], chance.Intn(2))
		if chance.Intn(2) == 0 {
			e = del(places[i], chance.Intn(2))
		}
		e.Time = 1 + chance.Intn(50)
		for _, x := range l {
			if chance.Intn(3) == 0 {
				e.Removes = append(append(e.Removes, x.Dot), x.Removes...)
			}
		}
		if chance.Intn(3) == 0 {
			e.Removes = append(e.Removes, places[n+i])
		}
		slices.SortFunc(e.Removes, order)
		e.Removes = slices.Compact(e.Removes)
		if len(e.Removes) == 0 && chance.Intn(2) == 0 || len(e.Removes) > 96 {
			e = at(e.Time, sample(e.Dot, e.Work))
		}
		l = append(l, e)
	}
	return l
}

// areClosed says whether events are closed, by the document's words.
func areClosed(l []api.Event) bool {
	for i, a := range l {
		for k, b := range l {
			if i != k && a.Dot == b.Dot {
				return false
			}
			if !slices.Contains(a.Removes, b.Dot) {
				continue
			}
			for _, d := range b.Removes {
				if !slices.Contains(a.Removes, d) {
					return false
				}
			}
		}
	}
	return true
}

// take has a book take events, some of which it has seen.
func take(t *testing.T, b *Book, l []api.Event) {
	t.Helper()
	for _, e := range l {
		if got := b.Add(e); got != api.OK && got != api.ErrTwice {
			t.Fatalf("Add(%v) = %d", e, got)
		}
	}
}

// covered: each dot that was seen holds, or is removed by one that holds; and nothing else is told by those that hold.
func covered(t *testing.T, b *Book) {
	t.Helper()
	var l []api.Dot
	for _, e := range b.Events() {
		l = append(append(l, e.Dot), e.Removes...)
	}
	if !sameSet(setOf(l), b.Seen()) {
		t.Fatalf("%v hold, and %v are seen", b.Events(), b.Seen())
	}
}

// P8.3: closed events may come in any order, and more than once: the same are seen, and hold, in the end.
func TestClosedInAnyOrder(t *testing.T) {
	for _, l := range closedFamilies() {
		if !areClosed(l) {
			t.Fatalf("%v aren't closed", l)
		}
		first := New()
		take(t, first, l)
		for _, p := range permutations(l) {
			b, twice, late := New(), New(), New()
			take(t, b, p)
			covered(t, b)
			for i := range p {
				// Each one at once again, and then all up to there.
				take(t, twice, []api.Event{p[i], p[i]})
				take(t, twice, p[:i])
				covered(t, twice)
			}
			take(t, late, join(p, reverse(p), l))
			for _, x := range []*Book{b, twice, late} {
				if !sameAll(x.Events(), first.Events()) || !sameSet(x.Seen(), first.Seen()) {
					t.Fatalf("behind %v: %v hold, %v are seen; in another order: %v, %v", p, x.Events(), x.Seen(), first.Events(), first.Seen())
				}
			}
		}
	}
}

// P8.3: those hold in the end that none of them removes.
func TestClosedThatHold(t *testing.T) {
	for _, l := range append(closedFamilies(), closedByChance(77, 40), closedByChance(78, 120), closedByChance(79, 300)) {
		if !areClosed(l) {
			t.Fatal("they aren't closed")
		}
		var want, seen []api.Dot
		for _, e := range l {
			if !slices.ContainsFunc(l, func(x api.Event) bool { return slices.Contains(x.Removes, e.Dot) }) {
				want = append(want, e.Dot)
			}
			seen = append(append(seen, e.Dot), e.Removes...)
		}
		slices.SortFunc(want, order)
		for _, p := range [][]api.Event{l, reverse(l), shuffled(l)} {
			b := New()
			take(t, b, p)
			covered(t, b)
			if got := dotsOf(b.Events()); !slices.Equal(got, want) || !sameSet(b.Seen(), setOf(seen)) {
				t.Fatalf("behind %v: %v hold, want %v", p, got, want)
			}
		}
	}
}

// handed: what the one has newer is handed to the other, so many at a time; each of these must be new to it.
func handed(t *testing.T, from, to *Book, most int) {
	t.Helper()
	for {
		l := from.Newer(to.Seen(), most)
		if len(l) == 0 {
			return
		}
		for _, e := range l {
			if got := to.Add(e); got != api.OK {
				t.Fatalf("Add(%v) = %d", e, got)
			}
		}
	}
}

// P8.3: a book that was handed another one's Newer of its own Seen, all of them, sees all that the other one saw.
func TestHandedOn(t *testing.T) {
	for _, l := range closedFamilies() {
		for parts := range 1 << (2 * len(l)) {
			// Two bits of each event: whether the one knows it, and the other.
			var mine, yours []api.Event
			for i, e := range l {
				if parts>>(2*i)&1 == 1 {
					mine = append(mine, e)
				}
				if parts>>(2*i)&2 == 2 {
					yours = append(yours, e)
				}
			}
			from, to := New(), New()
			take(t, from, mine)
			take(t, to, reverse(yours))
			seen := to.Seen()
			handed(t, from, to, []int{1, 2, 99}[parts%3])
			for _, d := range append(dotset.List(from.Seen()), dotset.List(seen)...) {
				if !dotset.Has(to.Seen(), d) {
					t.Fatalf("%v, handed on to %v: %v isn't seen", mine, yours, d)
				}
			}
			if !sameSet(to.Seen(), dotset.Join(from.Seen(), seen)) {
				t.Fatalf("%v, handed on to %v: %v is seen", mine, yours, to.Seen())
			}
			covered(t, to)
			// And back again: both know the same then.
			handed(t, to, from, 99)
			if !sameSet(to.Seen(), from.Seen()) || !sameAll(to.Events(), from.Events()) {
				t.Fatalf("%v, %v: handed to and fro, %v and %v hold", mine, yours, from.Events(), to.Events())
			}
		}
	}
}

// P8.3: events that are issued as they are at nodes, each removing what its own book's Stands tells, are closed; handed on by chance, all books are the same in the end.
func TestIssuedAreClosed(t *testing.T) {
	for seed := range 4 {
		chance := rand.New(rand.NewSource(int64(seed)))
		books := []*Book{New(), New(), New(), New()}
		var all []api.Event
		for range 80 {
			node := chance.Intn(len(books))
			b := books[node]
			if chance.Intn(2) == 0 {
				handed(t, books[chance.Intn(len(books))], b, 1+chance.Intn(5))
				covered(t, b)
				continue
			}
			e := set(dot(node, b.Last(node)+1), chance.Intn(2))
			if chance.Intn(3) == 0 {
				e = del(e.Dot, e.Work)
			}
			e.Time = b.Clock() + 1
			e.Removes, _ = b.Stands(e.Work)
			if got := b.Add(e); got != api.OK {
				t.Fatalf("Add(%v) = %d", e, got)
			}
			all = append(all, e)
		}
		if !areClosed(all) {
			t.Fatalf("%v aren't closed", all)
		}
		for range 2 {
			for i, b := range books {
				handed(t, b, books[(i+1)%len(books)], 3)
			}
		}
		want := New()
		take(t, want, shuffled(all))
		for i, b := range books {
			if !sameAll(b.Events(), want.Events()) || !sameSet(b.Seen(), want.Seen()) {
				t.Fatalf("book %d: %v", i, b.Events())
			}
		}
	}
}

// scribble writes over a list and its spare room.
func scribble[T any](l []T, with T) {
	l = l[:cap(l)]
	for i := range l {
		l[i] = with
	}
}

// scribbleAll writes over events, and over their Removes.
func scribbleAll(l []api.Event) {
	for _, e := range l {
		scribble(e.Removes, dot(-9, -9))
	}
	scribble(l, api.Event{Dot: dot(-9, -9), Removes: dots(-9, -9)})
}

// roomy is a list with spare room behind it, of dots that are easy to tell; untouched: it is as it was, and so is the room.
func roomy(l []api.Dot) []api.Dot { return join(l, dots(-7, -7, -7, -7, -7, -7))[:len(l)] }
func untouched(l, before []api.Dot) bool {
	return slices.Equal(l, before) && slices.Equal(l[len(l):len(l)+3], dots(-7, -7, -7, -7, -7, -7))
}

// Rule 4: what is handed in is not changed, its spare room neither.
func TestTouchesNothing(t *testing.T) {
	b, _ := some(t)
	for _, e := range append(wrongs(), set(dot(4, 1), 3, dots(0, 1, 0, 4, 5, 1)...), del(dot(4, 1), 3, dots(0, 1)...), set(dot(4, 2), 3)) {
		before := slices.Clone(e.Removes)
		e.Removes = roomy(e.Removes)
		b.Add(e)
		b.Add(e)
		if !untouched(e.Removes, before) {
			t.Fatalf("Add changed %v", before)
		}
	}
	for _, s := range append(wrongSets(), dotset.Set{}, setOf(dots(0, 5, 1, 3, 7, 96)), b.Seen()) {
		before := slices.Clone(s.More)
		s.More = roomy(s.More)
		for _, most := range []int{-1, 0, 1, 99} {
			scribbleAll(b.Newer(s, most))
		}
		if !untouched(s.More, before) {
			t.Fatalf("Newer changed %v", before)
		}
	}
}

// Rule 4: what was handed to Add, changed afterwards: the book stays as it was.
func TestKeepsItsOwn(t *testing.T) {
	b, m := New(), &told{}
	for _, e := range []api.Event{set(dot(0, 1), 1), del(dot(1, 4), 1, dots(0, 1, 0, 3)...), set(dot(2, 1), 1, roomy(dots(0, 1, 5, 5))...)} {
		if m.add(e) != api.OK || b.Add(e) != api.OK {
			t.Fatalf("Add(%v)", e)
		}
		scribble(e.Removes, dot(6, 6))
		agrees(t, b, m)
	}
	s := setOf(dots(1, 4, 5, 5))
	got := b.Newer(s, 9)
	scribble(s.More, dot(2, 1))
	agrees(t, b, m)
	if !slices.Equal(dotsOf(got), dots(2, 1)) {
		t.Errorf("Newer = %v", got)
	}
}

// Rule 4: what an answer hands out, changed afterwards: the book stays as it was, and so do other answers.
func TestHandsOutCopies(t *testing.T) {
	b, m := some(t)
	seen, events, newer := b.Seen(), b.Events(), b.Newer(dotset.Set{}, 3)
	stands, _ := b.Stands(2)
	for range 2 {
		other := b.Seen()
		scribble(other.More, dot(4, 4))
		other.Upto[0] = 77
		agrees(t, b, m)
		scribbleAll(b.Events())
		agrees(t, b, m)
		scribbleAll(b.Newer(dotset.Set{}, 3))
		agrees(t, b, m)
		l, _ := b.Stands(2)
		scribble(l, dot(4, 4))
		agrees(t, b, m)
	}
	want, _ := m.stands(2)
	if !sameSet(seen, setOf(m.seen())) || !sameAll(events, m.events()) || !sameAll(newer, m.events()[:3]) || !slices.Equal(stands, want) {
		t.Errorf("%v, %v, %v, %v", seen, events, newer, stands)
	}
	// Nor does a later Add change what was answered.
	b.Add(del(dot(4, 1), 2, dots(0, 4, 0, 5, 2, 4, 7, 96)...))
	if !sameSet(seen, setOf(m.seen())) || !sameAll(events, m.events()) || !sameAll(newer, m.events()[:3]) || !slices.Equal(stands, want) {
		t.Errorf("%v, %v, %v, %v", seen, events, newer, stands)
	}
}

// Rule 4: no two lists of an answer share memory, spare room included.
func TestListsApart(t *testing.T) {
	b, m := some(t)
	b.Add(del(dot(4, 1), 5, dots(0, 6)...))
	m.add(del(dot(4, 1), 5, dots(0, 6)...))
	want := mapped(m.events(), own)
	for _, got := range [][]api.Event{b.Events(), b.Newer(dotset.Set{}, 99)} {
		for i := range got {
			scribble(got[i].Removes, dot(-9, -9))
			if !sameAll(got[i+1:], want[i+1:]) {
				t.Fatalf("what stands behind %d shares memory with it", i)
			}
		}
	}
}

// Rule 5: books are independent of one another; asked again, or of the same calls, they answer the same.
func TestIndependent(t *testing.T) {
	a, am := some(t)
	b, bm := some(t)
	for range 3 {
		agrees(t, a, am)
	}
	e := del(dot(4, 7), 1, dots(2, 4)...)
	if a.Add(e) != api.OK || am.add(e) != api.OK {
		t.Fatal("Add")
	}
	agrees(t, a, am)
	agrees(t, b, bm)
	agrees(t, New(), &told{})
	if b.Add(e) != api.OK || bm.add(e) != api.OK {
		t.Fatal("Add")
	}
	agrees(t, b, bm)
}

// P1, P7: a book of as many events as there can be, with as many Removes as there can be, and arguments that are very long.
func TestVeryMany(t *testing.T) {
	b := New()
	for _, d := range shuffled(world()[96:]) {
		e := del(d, d.Seq%2, world()[:96]...)
		if got := b.Add(e); got != api.OK {
			t.Fatal(got)
		}
	}
	if got := b.Events(); len(got) != 672 || !sameAll(got, mapped(world()[96:], func(d api.Dot) api.Event { return del(d, d.Seq%2, world()[:96]...) })) {
		t.Errorf("%d events hold", len(got))
	}
	for _, d := range world() {
		if got := b.Add(sample(d, 0)); got != api.ErrTwice {
			t.Errorf("Add(%v) = %d", d, got)
		}
	}
	if l, e := b.Stands(1); len(l) != 0 || e != api.ErrFull || !sameSet(b.Seen(), full()) {
		t.Errorf("%v, %d", l, e)
	}
	long := slices.Repeat(world(), 2000)
	if got := New().Add(del(dot(0, 1), 0, long...)); got != api.ErrArg {
		t.Errorf("Add = %d", got)
	}
	if got := b.Newer(dotset.Set{More: long}, 5); len(got) != 5 {
		t.Errorf("Newer of a long set: %v", got)
	}
	if got := b.Newer(dotset.Set{}, math.MaxInt); len(got) != 672 {
		t.Errorf("Newer: %d", len(got))
	}
}
