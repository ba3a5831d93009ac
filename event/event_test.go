package event

import (
	"bytes"
	"encoding/binary"
	"math"
	"math/rand"
	"slices"
	"testing"

	"murmur/api"
)

const top = api.Top

// dot is one, of two numbers.
func dot(node, seq int) api.Dot { return api.Dot{Node: node, Seq: seq} }

// dots are some, of two numbers each.
func dots(numbers ...int) []api.Dot {
	var l []api.Dot
	for i := 0; i < len(numbers); i += 2 {
		l = append(l, dot(numbers[i], numbers[i+1]))
	}
	return l
}

// world are all dots that may be, in order.
func world() []api.Dot {
	var l []api.Dot
	for node := range 8 {
		for seq := 1; seq <= 96; seq++ {
			l = append(l, dot(node, seq))
		}
	}
	return l
}

// strange are dots that may not be.
func strange() []api.Dot {
	return dots(-1, 1, 8, 1, 9, 96, 0, 0, 0, 97, 7, 0, 7, 97, 0, -1, 3, 128, -1, 0, 8, 97, math.MinInt, 1, math.MaxInt, 1, 1, math.MinInt, 1, math.MaxInt)
}

// plainPolicy is an ordinary policy; plainSample, plainSet and plainDel are ordinary events of each Kind.
func plainPolicy() api.Policy {
	return api.Policy{Min: 1, Max: 5, Goal: 10, Slack: 20, Up: 2, Down: 3, Cool: 4}
}
func plainSample() api.Event {
	return api.Event{Dot: dot(1, 2), Time: 3, Kind: api.Sample, Work: 4, Value: 5}
}
func plainSet() api.Event {
	return api.Event{Dot: dot(1, 2), Time: 3, Kind: api.Set, Work: 4, Policy: plainPolicy(), Removes: dots(0, 1, 1, 1, 2, 96)}
}
func plainDel() api.Event {
	return api.Event{Dot: dot(1, 2), Time: 3, Kind: api.Del, Work: 4, Removes: dots(0, 1, 7, 96)}
}

// changed is an event with something done to it, its Removes in memory of their own.
func changed(e api.Event, do func(e *api.Event)) api.Event {
	e.Removes = slices.Clone(e.Removes)
	do(&e)
	return e
}

// same says whether two events are the same, Removes of nil and none too.
func same(a, b api.Event) bool {
	return a.Dot == b.Dot && a.Time == b.Time && a.Kind == b.Kind && a.Work == b.Work && a.Value == b.Value && a.Policy == b.Policy && slices.Equal(a.Removes, b.Removes)
}

// sameAll says it of lists.
func sameAll(a, b []api.Event) bool { return slices.EqualFunc(a, b, same) }

// bound is a number of a policy or an event: how to get at it, its least and its greatest.
type bound struct {
	name   string
	of     func(e *api.Event) *int
	lo, hi int
}

// policyBounds are those of a policy's numbers, of one with a Min of 0 or a Max of 1000 as it needs.
func policyBounds() []bound {
	return []bound{
		{"Max", func(e *api.Event) *int { return &e.Policy.Max }, 0, 1000},
		{"Goal", func(e *api.Event) *int { return &e.Policy.Goal }, 1, 1 << 30},
		{"Slack", func(e *api.Event) *int { return &e.Policy.Slack }, 0, 100},
		{"Up", func(e *api.Event) *int { return &e.Policy.Up }, 1, 1000},
		{"Down", func(e *api.Event) *int { return &e.Policy.Down }, 1, 1000},
		{"Cool", func(e *api.Event) *int { return &e.Policy.Cool }, 0, 1000},
	}
}

// eventBounds are those of the numbers that all Kinds have.
func eventBounds() []bound {
	return []bound{
		{"Node", func(e *api.Event) *int { return &e.Dot.Node }, 0, 7},
		{"Seq", func(e *api.Event) *int { return &e.Dot.Seq }, 1, 96},
		{"Time", func(e *api.Event) *int { return &e.Time }, 1, 1 << 40},
		{"Work", func(e *api.Event) *int { return &e.Work }, 0, 7},
	}
}

// valueBound is a Sample's Value's.
func valueBound() bound {
	return bound{"Value", func(e *api.Event) *int { return &e.Value }, 0, 1 << 40}
}

// inside are numbers within a bound, its ends at first; outside are those beyond it, one beyond at first.
func (b bound) inside() []int  { return []int{b.lo, b.hi, b.lo + 1, b.hi - 1, (b.lo + b.hi) / 2} }
func (b bound) outside() []int { return []int{b.lo - 1, b.hi + 1, -2, math.MinInt, math.MaxInt} }

// with is an event with that number of it another.
func (b bound) with(e api.Event, n int) api.Event {
	return changed(e, func(e *api.Event) { *b.of(e) = n })
}

// rights are right events of each Kind: ordinary ones, those at the edges, and some by chance.
func rights() []api.Event {
	l := []api.Event{plainSample(), plainSet(), plainDel()}
	for _, b := range append(eventBounds(), valueBound()) {
		for _, n := range b.inside() {
			l = append(l, b.with(plainSample(), n))
		}
	}
	bare := changed(plainSet(), func(e *api.Event) { e.Removes, e.Policy.Min = nil, 0 })
	for _, b := range append(eventBounds(), policyBounds()...) {
		for _, n := range b.inside() {
			l = append(l, b.with(bare, n))
		}
	}
	for _, m := range [][2]int{{0, 0}, {0, 1}, {1, 1}, {0, 1000}, {1000, 1000}, {999, 1000}, {500, 501}} {
		l = append(l, changed(plainSet(), func(e *api.Event) { e.Policy.Min, e.Policy.Max = m[0], m[1] }))
	}
	for _, b := range eventBounds() {
		for _, n := range b.inside() {
			l = append(l, b.with(changed(plainDel(), func(e *api.Event) { e.Removes = []api.Dot{} }), n))
		}
	}
	for _, removes := range rightRemoveLists() {
		set := changed(plainSet(), func(e *api.Event) { e.Removes = removes })
		del := changed(plainDel(), func(e *api.Event) { e.Removes = removes })
		l = append(l, set, del)
	}
	return append(l, byChance(200)...)
}

// rightRemoveLists are Removes that an event 1 2 may have.
func rightRemoveLists() [][]api.Dot {
	return [][]api.Dot{
		nil, {}, dots(0, 1), dots(7, 96), dots(1, 1), dots(1, 3), dots(1, 1, 1, 3), dots(0, 2, 2, 2),
		dots(0, 96, 1, 1), dots(0, 1, 0, 2, 0, 3), dots(0, 1, 7, 96), dots(0, 95, 0, 96, 6, 1, 7, 1),
		world()[:95], world()[:96], world()[2*96 : 3*96], world()[768-96:], without(world()[1:98], dot(1, 2))[:96],
	}
}

// wrongRemoveLists are those that it may not have, each for one reason.
func wrongRemoveLists() [][]api.Dot {
	l := [][]api.Dot{
		// Out of order, by Seq and by Node.
		dots(0, 2, 0, 1), dots(2, 1, 0, 1), dots(2, 1, 0, 2), dots(2, 1, 1, 3, 3, 1), dots(0, 1, 0, 3, 0, 2, 0, 4), dots(0, 1, 7, 96, 7, 95),
		// A dot twice.
		dots(0, 1, 0, 1), dots(7, 96, 7, 96), dots(0, 1, 3, 4, 3, 4, 5, 6), dots(0, 1, 3, 4, 0, 1),
		// The event's own.
		dots(1, 2), dots(0, 1, 1, 2), dots(1, 1, 1, 2, 1, 3), dots(1, 2, 7, 96), dots(0, 1, 1, 2, 7, 96),
		// One more than may be, and many more.
		without(world(), dot(1, 2))[:97], world()[768-97:], without(world(), dot(1, 2)),
	}
	// A dot that may not be, alone, behind others and ahead of them.
	for _, d := range strange() {
		l = append(l, []api.Dot{d}, []api.Dot{dot(0, 1), d}, []api.Dot{d, dot(7, 96)}, []api.Dot{dot(0, 1), d, dot(7, 96)})
	}
	return l
}

// without is the others of a list.
func without(l []api.Dot, d api.Dot) []api.Dot {
	return slices.DeleteFunc(slices.Clone(l), func(x api.Dot) bool { return x == d })
}

// byChance are n right events, the same ones whenever they are asked for.
func byChance(n int) []api.Event {
	chance := rand.New(rand.NewSource(7))
	from := func(lo, hi int) int { return lo + chance.Intn(hi-lo+1) }
	var l []api.Event
	for i := range n {
		e := api.Event{Dot: dot(from(0, 7), from(1, 96)), Time: from(1, 1<<from(1, 40)), Kind: 1 + i%3, Work: from(0, 7)}
		if e.Kind == api.Sample {
			e.Value = from(0, 1<<from(1, 40))
		} else {
			for _, d := range without(world(), e.Dot) {
				if len(e.Removes) < 96 && chance.Intn(n+50) < i {
					e.Removes = append(e.Removes, d)
				}
			}
		}
		if e.Kind == api.Set {
			high := from(0, 1000)
			e.Policy = api.Policy{Min: from(0, high), Max: high, Goal: from(1, 1<<from(1, 30)), Slack: from(0, 100), Up: from(1, 1000), Down: from(1, 1000), Cool: from(0, 1000)}
		}
		l = append(l, e)
	}
	return l
}

// wrongs are events that aren't right, each for one reason.
func wrongs() []api.Event {
	l := []api.Event{{}}
	bare := changed(plainSet(), func(e *api.Event) { e.Removes, e.Policy.Min = nil, 0 })
	for _, b := range eventBounds() {
		for _, n := range b.outside() {
			l = append(l, b.with(plainSample(), n), b.with(plainSet(), n), b.with(plainDel(), n))
		}
	}
	for _, n := range valueBound().outside() {
		l = append(l, valueBound().with(plainSample(), n))
	}
	for _, b := range policyBounds() {
		for _, n := range b.outside() {
			l = append(l, b.with(bare, n), b.with(plainSet(), n))
		}
	}
	for _, n := range []int{6, 7, 1000, 1001, -1, math.MinInt, math.MaxInt} {
		l = append(l, changed(plainSet(), func(e *api.Event) { e.Policy.Min = n }))
	}
	for _, kind := range []int{0, 4, -1, 5, 256 + 1, 1 << 32, top, math.MinInt, math.MaxInt} {
		for _, e := range []api.Event{plainSample(), plainSet(), plainDel(), {Dot: dot(1, 2), Time: 3, Work: 4}} {
			l = append(l, changed(e, func(e *api.Event) { e.Kind = kind }))
		}
	}
	for _, removes := range wrongRemoveLists() {
		set := changed(plainSet(), func(e *api.Event) { e.Removes = removes })
		del := changed(plainDel(), func(e *api.Event) { e.Removes = removes })
		l = append(l, set, del)
	}
	return append(l, notTheirs()...)
}

// notTheirs are events with something that their Kind hasn't.
func notTheirs() []api.Event {
	l := []api.Event{
		changed(plainSample(), func(e *api.Event) { e.Policy = plainPolicy() }),
		changed(plainSample(), func(e *api.Event) { e.Removes = dots(0, 1) }),
		changed(plainSample(), func(e *api.Event) { e.Removes = dots(0, 0) }),
		changed(plainDel(), func(e *api.Event) { e.Policy = plainPolicy() }),
		changed(plainSet(), func(e *api.Event) { e.Policy = api.Policy{} }),
		changed(plainSet(), func(e *api.Event) { e.Kind = api.Sample }),
		changed(plainSet(), func(e *api.Event) { e.Kind = api.Del }),
		changed(plainDel(), func(e *api.Event) { e.Kind = api.Set }),
	}
	for _, n := range []int{1, -1, 5, top, top + 1, math.MinInt} {
		l = append(l, changed(plainSet(), func(e *api.Event) { e.Value = n }), changed(plainDel(), func(e *api.Event) { e.Value = n }))
	}
	// Each number of a policy alone.
	numbers := append(policyBounds(), bound{of: func(e *api.Event) *int { return &e.Policy.Min }})
	for _, b := range numbers {
		for _, n := range []int{1, -1, math.MaxInt} {
			l = append(l, b.with(plainSample(), n), b.with(plainDel(), n))
		}
	}
	return l
}

// P7.1: Right, of events by the document's words.
func TestRight(t *testing.T) {
	for _, e := range rights() {
		if !Right(e) {
			t.Errorf("%v isn't right", e)
		}
	}
	for _, e := range wrongs() {
		if Right(e) {
			t.Errorf("%v is right", e)
		}
	}
}

// P7.1: Right at the edges, written out.
func TestRightAtTheEdges(t *testing.T) {
	for _, x := range []struct {
		name string
		e    api.Event
		want bool
	}{
		{"the example", plainSample(), true},
		{"the least Sample", api.Event{Dot: dot(0, 1), Time: 1, Kind: 1}, true},
		{"the greatest Sample", api.Event{Dot: dot(7, 96), Time: 1 << 40, Kind: 1, Work: 7, Value: 1 << 40}, true},
		{"the least Set", api.Event{Dot: dot(0, 1), Time: 1, Kind: 2, Policy: api.Policy{Goal: 1, Up: 1, Down: 1}}, true},
		{"the greatest Set", api.Event{Dot: dot(7, 96), Time: 1 << 40, Kind: 2, Work: 7, Policy: api.Policy{Min: 1000, Max: 1000, Goal: 1 << 30, Slack: 100, Up: 1000, Down: 1000, Cool: 1000}, Removes: world()[:96]}, true},
		{"the least Del", api.Event{Dot: dot(0, 1), Time: 1, Kind: 3}, true},
		{"the greatest Del", api.Event{Dot: dot(7, 96), Time: 1 << 40, Kind: 3, Work: 7, Removes: world()[671:767]}, true},
		{"nothing", api.Event{}, false},
		{"Time 0", api.Event{Dot: dot(0, 1), Kind: 1}, false},
		{"Time Top and 1", api.Event{Dot: dot(0, 1), Time: 1<<40 + 1, Kind: 1}, false},
		{"Work -1", api.Event{Dot: dot(0, 1), Time: 1, Kind: 1, Work: -1}, false},
		{"Work 8", api.Event{Dot: dot(0, 1), Time: 1, Kind: 1, Work: 8}, false},
		{"Value -1", api.Event{Dot: dot(0, 1), Time: 1, Kind: 1, Value: -1}, false},
		{"Value Top and 1", api.Event{Dot: dot(0, 1), Time: 1, Kind: 1, Value: 1<<40 + 1}, false},
		{"Kind 0", api.Event{Dot: dot(0, 1), Time: 1}, false},
		{"Kind 4", api.Event{Dot: dot(0, 1), Time: 1, Kind: 4}, false},
		{"Removes of 97", api.Event{Dot: dot(7, 96), Time: 1, Kind: 3, Removes: world()[:97]}, false},
		{"a Set without a policy", api.Event{Dot: dot(0, 1), Time: 1, Kind: 2}, false},
	} {
		if Right(x.e) != x.want {
			t.Errorf("Right of %s: %v", x.name, !x.want)
		}
	}
}

// P7.1: of any two dots that an event removes, and any three, those in order alone are right, and none its own.
func TestRightInOrder(t *testing.T) {
	few := dots(0, 1, 0, 2, 0, 96, 1, 1, 1, 2, 1, 50, 7, 1, 7, 96)
	own := dot(1, 2)
	for i, a := range few {
		for k, b := range few {
			e := api.Event{Dot: own, Time: 1, Kind: api.Del, Removes: []api.Dot{a, b}}
			if got := Right(e); got != (i < k && a != own && b != own) {
				t.Errorf("Right of Removes %v %v: %v", a, b, got)
			}
			for n, c := range few {
				e.Removes = []api.Dot{a, b, c}
				if got := Right(e); got != (i < k && k < n && a != own && b != own && c != own) {
					t.Errorf("Right of Removes %v %v %v: %v", a, b, c, got)
				}
			}
		}
	}
}

// P7.1: RightPolicy, each number at its ends and beyond.
func TestRightPolicy(t *testing.T) {
	least, greatest := api.Policy{Goal: 1, Up: 1, Down: 1}, api.Policy{Min: 1000, Max: 1000, Goal: 1 << 30, Slack: 100, Up: 1000, Down: 1000, Cool: 1000}
	for _, p := range []api.Policy{least, greatest, plainPolicy()} {
		if !RightPolicy(p) {
			t.Errorf("%v isn't right", p)
		}
	}
	if RightPolicy(api.Policy{}) {
		t.Error("the policy of zeros is right")
	}
	for _, from := range []api.Policy{{Max: 5, Goal: 10, Up: 2, Down: 3}, plainPolicy(), least} {
		from.Min = 0
		for _, b := range policyBounds() {
			for _, n := range b.inside() {
				if p := b.with(api.Event{Policy: from}, n).Policy; !RightPolicy(p) {
					t.Errorf("%s %d: %v isn't right", b.name, n, p)
				}
			}
			for _, n := range b.outside() {
				if p := b.with(api.Event{Policy: from}, n).Policy; RightPolicy(p) {
					t.Errorf("%s %d: %v is right", b.name, n, p)
				}
			}
		}
	}
}

// P7.1: Min is from 0 to Max, Max from 0 to MaxReplicas, whatever they are together.
func TestRightMinAndMax(t *testing.T) {
	edges := []int{math.MinInt, -1001, -2, -1, 0, 1, 2, 500, 999, 1000, 1001, 1 << 32, top, math.MaxInt}
	for _, low := range edges {
		for _, high := range edges {
			p := plainPolicy()
			p.Min, p.Max = low, high
			if want := low >= 0 && low <= high && high <= 1000; RightPolicy(p) != want {
				t.Errorf("RightPolicy of Min %d, Max %d: %v", low, high, !want)
			}
		}
	}
}

// P7.1: Later, by cases written out: by Time, then Node, then Seq.
func TestLater(t *testing.T) {
	at := func(time, node, seq int) api.Event { return api.Event{Dot: dot(node, seq), Time: time} }
	for _, x := range []struct {
		a, b api.Event
		want bool
	}{
		{at(2, 0, 1), at(1, 0, 1), true}, {at(1, 0, 1), at(2, 0, 1), false},
		{at(2, 0, 1), at(1, 7, 96), true}, {at(1, 7, 96), at(2, 0, 1), false},
		{at(3, 2, 1), at(3, 1, 1), true}, {at(3, 1, 1), at(3, 2, 1), false},
		{at(3, 2, 1), at(3, 1, 96), true}, {at(3, 1, 96), at(3, 2, 1), false},
		{at(3, 1, 2), at(3, 1, 1), true}, {at(3, 1, 1), at(3, 1, 2), false},
		{at(3, 1, 1), at(3, 1, 1), false}, {at(0, 0, 0), at(0, 0, 0), false},
		{at(top, 0, 1), at(top-1, 7, 96), true}, {at(1, 0, 1), at(0, 0, 1), true},
		{at(math.MaxInt, 0, 0), at(math.MinInt, 0, 0), true}, {at(math.MinInt, 0, 0), at(math.MaxInt, 0, 0), false},
		{at(0, math.MaxInt, 0), at(0, math.MinInt, 0), true}, {at(0, math.MinInt, 0), at(0, math.MaxInt, 0), false},
		{at(0, 0, math.MaxInt), at(0, 0, math.MinInt), true}, {at(0, 0, math.MinInt), at(0, 0, math.MaxInt), false},
	} {
		if Later(x.a, x.b) != x.want {
			t.Errorf("Later(%v, %v) = %v", x.a, x.b, !x.want)
		}
	}
	// Nothing else of an event is asked.
	a, b := plainSample(), plainSet()
	if Later(a, b) || Later(b, a) {
		t.Error("two events of one Time and dot: one is later")
	}
}

// P7.4: of two events of unlike dots just one is Later; of one dot and Time none; and later than later is later.
func TestLaterOrders(t *testing.T) {
	var l []api.Event
	for _, time := range []int{math.MinInt, 0, 1, 2, top, math.MaxInt} {
		for _, d := range dots(0, 1, 0, 2, 1, 1, 7, 96, -1, 0, math.MinInt, math.MaxInt, math.MaxInt, math.MinInt) {
			l = append(l, api.Event{Dot: d, Time: time, Value: len(l)})
		}
	}
	l = append(l, byChance(20)...)
	for _, a := range l {
		for _, b := range l {
			if a.Dot != b.Dot && Later(a, b) == Later(b, a) {
				t.Errorf("Later of %v and %v, both ways: %v", a, b, Later(a, b))
			}
			if a.Dot == b.Dot && a.Time == b.Time && Later(a, b) {
				t.Errorf("%v is later than %v", a, b)
			}
			for _, c := range l {
				if Later(a, b) && Later(b, c) && !Later(a, c) {
					t.Fatalf("%v, %v, %v go round", a, b, c)
				}
			}
		}
	}
}

// numbers are an event's by the document's words, right or not.
func numbers(e api.Event) []int {
	l := []int{e.Dot.Node, e.Dot.Seq, e.Time, e.Kind, e.Work}
	if e.Kind == api.Sample {
		return append(l, e.Value)
	}
	if p := e.Policy; e.Kind == api.Set {
		l = append(l, p.Min, p.Max, p.Goal, p.Slack, p.Up, p.Down, p.Cool)
	}
	l = append(l, len(e.Removes))
	for _, d := range e.Removes {
		l = append(l, d.Node, d.Seq)
	}
	return l
}

// numbersOfAll are those of many.
func numbersOfAll(l []api.Event) []int {
	all := []int{len(l)}
	for _, e := range l {
		all = append(all, numbers(e)...)
	}
	return all
}

// written is numbers as bytes. Layer 2's way of writing is the one of Go's library.
func written(l ...int) []byte {
	var b []byte
	for _, n := range l {
		b = binary.AppendUvarint(b, uint64(n))
	}
	return b
}

// writable says whether all of them may be written.
func writable(l []int) bool { return slices.Min(l) >= 0 && slices.Max(l) <= top }

// P7.2, P7.3: Put and Get, by cases written out: the document's example at first.
func TestPutAndGet(t *testing.T) {
	for _, x := range []struct {
		e api.Event
		b string
	}{
		{plainSample(), "\x01\x02\x03\x01\x04\x05"},
		{plainSet(), "\x01\x02\x03\x02\x04\x01\x05\x0a\x14\x02\x03\x04\x03\x00\x01\x01\x01\x02\x60"},
		{plainDel(), "\x01\x02\x03\x03\x04\x02\x00\x01\x07\x60"},
		{api.Event{Dot: dot(0, 1), Time: 1, Kind: 1}, "\x00\x01\x01\x01\x00\x00"},
		{api.Event{Dot: dot(0, 1), Time: 1, Kind: 3}, "\x00\x01\x01\x03\x00\x00"},
		{api.Event{Dot: dot(0, 1), Time: 1, Kind: 2, Policy: api.Policy{Goal: 1, Up: 1, Down: 1}}, "\x00\x01\x01\x02\x00\x00\x00\x01\x00\x01\x01\x00\x00"},
		{api.Event{Dot: dot(7, 96), Time: top, Kind: 1, Work: 7, Value: top}, "\x07\x60\x80\x80\x80\x80\x80\x20\x01\x07\x80\x80\x80\x80\x80\x20"},
		{api.Event{Dot: dot(7, 96), Time: 300, Kind: 2, Work: 7, Policy: api.Policy{Min: 1000, Max: 1000, Goal: 1 << 30, Slack: 100, Up: 1000, Down: 999, Cool: 1000}},
			"\x07\x60\xac\x02\x02\x07\xe8\x07\xe8\x07\x80\x80\x80\x80\x04\x64\xe8\x07\xe7\x07\xe8\x07\x00"},
	} {
		if got, e := Put(x.e); string(got) != x.b || e != api.OK {
			t.Errorf("Put(%v) = %x, %d, want %x, OK", x.e, got, e, x.b)
		}
		if got, e := Get([]byte(x.b)); !same(got, x.e) || e != api.OK {
			t.Errorf("Get(%x) = %v, %d, want %v, OK", x.b, got, e, x.e)
		}
	}
}

// P7.2: Put and PutAll refuse what isn't right, with no bytes beside the error.
func TestPutRefuses(t *testing.T) {
	for _, x := range wrongs() {
		if got, e := Put(x); len(got) != 0 || e != api.ErrArg {
			t.Errorf("Put(%v) = %x, %d", x, got, e)
		}
		for _, l := range [][]api.Event{{x}, {x, plainSample()}, {plainSet(), x}, {plainSample(), x, plainDel()}, {x, x}} {
			if got, e := PutAll(l); len(got) != 0 || e != api.ErrArg {
				t.Errorf("PutAll(%v) = %x, %d", l, got, e)
			}
		}
	}
}

// P7.2, P7.4: of right events Put writes the document's numbers; what is put is got.
func TestPutIsGot(t *testing.T) {
	for _, x := range rights() {
		b, e := Put(x)
		if e != api.OK || !bytes.Equal(b, written(numbers(x)...)) {
			t.Fatalf("Put(%v) = %x, %d", x, b, e)
		}
		if got, e := Get(b); !same(got, x) || e != api.OK {
			t.Errorf("%v is put as %x, and got as %v, %d", x, b, got, e)
		}
	}
}

// many are n right events.
func many(n int) []api.Event {
	l := rights()
	for len(l) < n {
		l = append(l, rights()...)
	}
	return l[:n]
}

// P7.2, P7.3, P7.4: PutAll and GetAll, of none, one, some, and as many as may be.
func TestPutAllIsGot(t *testing.T) {
	lists := [][]api.Event{nil, {}, {plainSample()}, {plainSet(), plainSet()}, {plainDel(), plainSample(), plainSet()}, many(127), many(128), many(767), many(768)}
	for _, l := range lists {
		b, e := PutAll(l)
		if e != api.OK || !bytes.Equal(b, written(numbersOfAll(l)...)) {
			t.Fatalf("PutAll of %d: %x, %d", len(l), b, e)
		}
		if got, e := GetAll(b); !sameAll(got, l) || e != api.OK {
			t.Errorf("%d events are put as %x, and got as %v, %d", len(l), b, got, e)
		}
	}
	for _, x := range []struct {
		l []api.Event
		b string
	}{
		{nil, "\x00"},
		{[]api.Event{plainSample()}, "\x01\x01\x02\x03\x01\x04\x05"},
		{[]api.Event{plainSample(), plainSample()}, "\x02\x01\x02\x03\x01\x04\x05\x01\x02\x03\x01\x04\x05"},
		{[]api.Event{plainDel(), plainSample()}, "\x02\x01\x02\x03\x03\x04\x02\x00\x01\x07\x60\x01\x02\x03\x01\x04\x05"},
	} {
		if b, e := PutAll(x.l); string(b) != x.b || e != api.OK {
			t.Errorf("PutAll(%v) = %x, %d, want %x, OK", x.l, b, e, x.b)
		}
	}
	if b, _ := PutAll(many(768)); !bytes.HasPrefix(b, []byte("\x80\x06\x01\x02\x03")) {
		t.Errorf("PutAll of 768 begins with %x", b[:5])
	}
}

// P7.2: PutAll of more than may be, right or not: ErrLong is told ahead of what isn't right.
func TestPutAllOfTooMany(t *testing.T) {
	for _, l := range [][]api.Event{many(769), make([]api.Event, 769), make([]api.Event, 5000), append([]api.Event{{}}, many(768)...), append(many(768), api.Event{})} {
		if b, e := PutAll(l); len(b) != 0 || e != api.ErrLong {
			t.Errorf("PutAll of %d: %x, %d", len(l), b, e)
		}
	}
	for _, l := range [][]api.Event{make([]api.Event, 768), append(many(767), api.Event{}), append([]api.Event{{}}, many(767)...)} {
		if b, e := PutAll(l); len(b) != 0 || e != api.ErrArg {
			t.Errorf("PutAll of %d, one of them wrong: %x, %d", len(l), b, e)
		}
	}
}

// refused: Get answers the error, and no event beside it.
func refused(t *testing.T, b []byte, want api.Errno) {
	t.Helper()
	if got, e := Get(b); !same(got, api.Event{}) || e != want {
		t.Errorf("Get(%x) = %v, %d, want none, %d", b, got, e, want)
	}
}

// refusedAll is the same of GetAll.
func refusedAll(t *testing.T, b []byte, want api.Errno) {
	t.Helper()
	if got, e := GetAll(b); len(got) != 0 || e != want {
		t.Errorf("GetAll(%x) = %v, %d, want none, %d", b, got, e, want)
	}
}

// P7.3: bytes that end early, at each place; and bytes that are left.
func TestGetShortAndLong(t *testing.T) {
	for _, x := range rights() {
		b := written(numbers(x)...)
		for i := range b {
			refused(t, b[:i], api.ErrShort)
		}
		for _, more := range []string{"\x00", "\x01", "\x80", "\xff\xff\xff\xff\xff\xff\xff", string(b)} {
			refused(t, append(slices.Clone(b), more...), api.ErrForm)
		}
	}
	refused(t, nil, api.ErrShort)
	refused(t, []byte{}, api.ErrShort)
}

// P7.3: the same of many events.
func TestGetAllShortAndLong(t *testing.T) {
	l := append(many(3), byChance(9)...)
	b := written(numbersOfAll(l)...)
	for i := range b {
		refusedAll(t, b[:i], api.ErrShort)
	}
	for _, more := range []string{"\x00", "\x80", string(written(numbers(plainSample())...))} {
		refusedAll(t, append(slices.Clone(b), more...), api.ErrForm)
		refusedAll(t, append([]byte{0}, more...), api.ErrForm)
	}
	refusedAll(t, nil, api.ErrShort)
	refusedAll(t, []byte{0x80}, api.ErrShort)
	refusedAll(t, []byte{1}, api.ErrShort)
}

// P7.3: events that aren't right, written as if they were.
func TestGetOfWrongEvents(t *testing.T) {
	told := 0
	for _, x := range wrongs() {
		l := numbers(x)
		// What a Kind hasn't, isn't written: the bytes are another event's. So are those of other Kinds.
		theirs := x.Kind == api.Sample && x.Policy == api.Policy{} && len(x.Removes) == 0 || x.Value == 0 && (x.Kind == api.Set || x.Kind == api.Del && x.Policy == api.Policy{})
		if !theirs || !writable(l) {
			continue
		}
		told++
		want := api.ErrForm
		if len(x.Removes) > 96 {
			want = api.ErrLong
		}
		b := written(l...)
		refused(t, b, want)
		refused(t, append(slices.Clone(b), 0), want)
		one := written(numbers(plainSample())...)
		for _, ahead := range []int{0, 1, 2} {
			all := append(written(ahead+2), bytes.Repeat(one, ahead)...)
			all = append(all, b...)
			// It is told behind its last number, whatever is missing behind it.
			refusedAll(t, all, want)
			refusedAll(t, append(all, one...), want)
			refusedAll(t, append(all, 0x80, 0), want)
		}
		if want == api.ErrForm {
			refused(t, b[:len(b)-1], api.ErrShort)
			refusedAll(t, append([]byte{1}, b[:len(b)-1]...), api.ErrShort)
		}
	}
	if told < 100 {
		t.Errorf("%d wrong events were written", told)
	}
}

// P7.3: a Kind that is none of the three is told as soon as it is read, and no sooner.
func TestGetOfOtherKinds(t *testing.T) {
	for _, kind := range []int{0, 4, 5, 127, 128, 256 + 1, 1 << 32, 1<<32 + 1, top} {
		for _, ahead := range [][]int{{1, 2, 3}, {8, 97, 0}, {top, 0, top}} {
			b := written(append(slices.Clone(ahead), kind)...)
			for _, behind := range []string{"", "\x04", "\x04\x05", "\x80", "\x80\x00", "\x04\x61", "\x04\x05\x00\x00", "\x04\xe8\x07"} {
				refused(t, append(slices.Clone(b), behind...), api.ErrForm)
				refusedAll(t, append(append([]byte{1}, b...), behind...), api.ErrForm)
				refusedAll(t, append(append([]byte{9}, b...), behind...), api.ErrForm)
			}
			// Ahead of it the bytes end: nothing is known of it.
			refused(t, b[:len(b)-1], api.ErrShort)
		}
	}
}

// P7.3: a number of Removes above MaxRemoves is told as soon as it is read, whatever is wrong ahead of it or behind.
func TestGetOfManyRemoves(t *testing.T) {
	heads := [][]int{{1, 2, 3, 3, 4}, {8, 0, 0, 3, 8}, {1, 2, 3, 2, 4, 1, 5, 10, 20, 2, 3, 4}, {top, top, top, 2, top, 9, 8, 0, top, 0, 0, top}}
	for i, head := range heads {
		for _, count := range []int{97, 98, 128, 768, 1 << 20, 1 << 32, 1<<32 + 1, top - 1, top} {
			b := written(append(slices.Clone(head), count)...)
			for _, behind := range []string{"", "\x00", "\x80", "\x80\x00", "\x00\x01\x00\x02"} {
				refused(t, append(slices.Clone(b), behind...), api.ErrLong)
				refusedAll(t, append(append([]byte{1}, b...), behind...), api.ErrLong)
				refusedAll(t, append(append([]byte{2}, b...), behind...), api.ErrLong)
			}
			refused(t, append(b, bytes.Repeat([]byte{0, 1}, 1000)...), api.ErrLong)
		}
		// At the bound, the dots are read.
		b := written(append(slices.Clone(head), 96)...)
		refused(t, b, api.ErrShort)
		refused(t, append(slices.Clone(b), bytes.Repeat([]byte{0, 1}, 95)...), api.ErrShort)
		refused(t, append(slices.Clone(b), bytes.Repeat([]byte{0, 1}, 96)...), api.ErrForm)
		for _, d := range world()[:96] {
			b = append(b, written(d.Node, d.Seq)...)
		}
		if got, e := Get(b); i%2 == 0 && (e != api.OK || !slices.Equal(got.Removes, world()[:96])) || i%2 == 1 && e != api.ErrForm {
			t.Errorf("Get of 96 Removes: %v, %d", got, e)
		}
	}
}

// P7.3: a number of events above MaxNodes times MaxSeq is told as soon as it is read.
func TestGetAllOfTooMany(t *testing.T) {
	one := written(numbers(plainSample())...)
	for _, count := range []int{769, 770, 896, 1 << 20, 1 << 32, 1<<32 + 1, top - 1, top} {
		for _, behind := range [][]byte{nil, {0}, {0x80}, {0x80, 0}, one, bytes.Repeat(one, 769), bytes.Repeat(one, 896)} {
			refusedAll(t, append(written(count), behind...), api.ErrLong)
		}
	}
	// A number that may not be is told as that, though it is too many.
	refusedAll(t, []byte("\x81\x86\x00"), api.ErrForm)
	refusedAll(t, []byte("\x81\x80\x80\x80\x80\x20"), api.ErrForm)
	refusedAll(t, []byte("\xff\xff\xff\xff\xff"), api.ErrShort)
	refusedAll(t, []byte("\xff\xff\xff\xff\xff\xff"), api.ErrForm)
	refusedAll(t, written(768), api.ErrShort)
	refusedAll(t, append(written(768), bytes.Repeat(one, 767)...), api.ErrShort)
	refusedAll(t, append(written(768), bytes.Repeat(one, 769)...), api.ErrForm)
	if l, e := GetAll(append(written(768), bytes.Repeat(one, 768)...)); len(l) != 768 || e != api.OK {
		t.Errorf("GetAll of 768: %d, %d", len(l), e)
	}
}

// P7.3: a number that layer 2 refuses is refused wherever it stands, as it is there.
func TestGetOfWrongNumbers(t *testing.T) {
	for _, x := range []api.Event{plainSample(), plainSet(), plainDel()} {
		whole := numbers(x)
		for i := range whole {
			ahead, behind := written(whole[:i]...), written(whole[i+1:]...)
			for _, number := range []string{"\x80\x00", "\x85\x00", "\x81\x80\x80\x80\x80\x20", "\x80\x80\x80\x80\x80\x80", "\x80\x80\x80\x80\x80\x80\x01"} {
				b := append(slices.Clone(ahead), number...)
				refused(t, b, api.ErrForm)
				refused(t, append(b, behind...), api.ErrForm)
				refusedAll(t, append([]byte{2}, b...), api.ErrForm)
			}
			for _, number := range []string{"\x80", "\xff\xff\xff\xff\xff"} {
				b := append(slices.Clone(ahead), number...)
				refused(t, b, api.ErrShort)
				refusedAll(t, append([]byte{2}, b...), api.ErrShort)
			}
		}
	}
}

// P7.3: where several errors hold, the first one is told.
func TestGetFirstError(t *testing.T) {
	for _, x := range []struct {
		b string
		e api.Errno
	}{
		{"\x08", api.ErrShort},                                                          // a Node that may not be, and the bytes end early
		{"\x08\x00\x00\x01\x08", api.ErrShort},                                          // all but the Value, none of it right
		{"\x08\x00\x00\x01\x08\x80\x00", api.ErrForm},                                   // a number that may not be
		{"\x08\x00\x80\x00\x04", api.ErrForm},                                           // the same ahead of a Kind that may not be
		{"\x01\x02\x03\x02\x04\x09\x05\x0a\x14\x02\x03\x04", api.ErrShort},              // Min above Max, and no number of Removes
		{"\x01\x02\x03\x02\x04\x09\x05\x0a\x14\x02\x03\x04\x61", api.ErrLong},           // the same, and too many Removes
		{"\x01\x02\x03\x02\x04\x09\x05\x0a\x14\x02\x03\x04\x00", api.ErrForm},           // the same, and none
		{"\x01\x02\x03\x03\x04\x02\x01\x02\x00", api.ErrShort},                          // its own dot, and half of another
		{"\x01\x02\x03\x03\x04\x02\x01\x02\x80\x00", api.ErrForm},                       // its own dot, and a number that may not be
		{"\x01\x02\x03\x03\x04\xe1\x00", api.ErrForm},                                   // too many Removes, but a number that may not be
		{"\x01\x02\x03\x03\x04\xe1", api.ErrShort},                                      // half of that number
		{"\x01\x02\x03\x01\x04\x05\x00", api.ErrForm},                                   // bytes left
		{"\x01\x02\x03\x01\x04\x05\x00\x01\x02", api.ErrForm},                           // a Sample has no Removes: bytes left
		{"\x01\x02\x03\x03\x04\x01\x05\x0a\x14\x02\x03\x04\x00", api.ErrForm},           // a Del has no Policy: bytes left
		{"\x01\x02\x03\x02\x04\x02\x00\x01\x07\x60", api.ErrShort},                      // a Set has one
		{"\x01\x02\x03\x03\x04\x01\x01\x02", api.ErrForm},                               // its own dot
		{"\x01\x02\x81\x80\x80\x80\x80\x20\x01\x04\x05", api.ErrForm},                   // a Time of Top and 1
		{"\x01\x02\x03\x01\x04\x81\x80\x80\x80\x80\x20", api.ErrForm},                   // a Value of Top and 1
		{"\x01\x02\x03\x02\x04\x01\x05\x81\x80\x80\x80\x04\x14\x02\x03\x04\x00", 4},     // a Goal of 2^30 and 1
		{"\x01\x02\x03\x02\x04\x01\x05\x80\x80\x80\x80\x04\x14\x02\x03\x04\x01\x01", 3}, // a Goal of 2^30, and half a dot
	} {
		refused(t, []byte(x.b), x.e)
		refusedAll(t, append([]byte{1}, x.b...), x.e)
	}
	// An event that isn't right, among others, ahead of what is wrong behind it.
	for _, x := range []struct {
		b string
		e api.Errno
	}{
		{"\x02\x01\x00\x03\x01\x04\x05", api.ErrForm},                             // the second one is missing
		{"\x02\x01\x00\x03\x01\x04\x05\x01\x02\x03\x03\x04\x61", api.ErrForm},     // the second one has too many Removes
		{"\x02\x01\x02\x03\x01\x04\x05\x01\x02\x03\x03\x04\x61", api.ErrLong},     // the same behind a right one
		{"\x02\x01\x02\x03\x01\x04\x05\x01\x02\x03\x04", api.ErrForm},             // a second one of no Kind
		{"\x02\x01\x02\x03\x01\x04\x05\x01\x02\x03", api.ErrShort},                // half of a second one
		{"\x02\x01\x02\x03\x01\x04\x05\x01\x02\x03\x01\x04\x05\x01", api.ErrForm}, // bytes left behind two
		{"\x00\x01\x02\x03\x01\x04\x05", api.ErrForm},                             // bytes left behind none
	} {
		refusedAll(t, []byte(x.b), x.e)
	}
}

// number is what layer 2's chapter says of the number that bytes begin with.
func number(b []byte) (n, size int, e api.Errno) {
	for size < len(b) && size < 6 {
		n += int(b[size]%128) << (7 * size)
		size++
		if b[size-1] >= 128 {
			continue
		}
		if n > top || size > 1 && b[size-1] == 0 {
			return 0, 0, api.ErrForm
		}
		return n, size, api.OK
	}
	if size == 6 {
		return 0, 0, api.ErrForm
	}
	return 0, 0, api.ErrShort
}

// take is the first count numbers of bytes, and what stands behind them.
func take(b []byte, count int) (l []int, rest []byte, e api.Errno) {
	for range count {
		n, size, e := number(b)
		if e != api.OK {
			return nil, nil, e
		}
		l, b = append(l, n), b[size:]
	}
	return l, b, api.OK
}

// told is what the document says of the event that bytes begin with, and what stands behind it; what is right, Right says.
func told(b []byte) (x api.Event, rest []byte, e api.Errno) {
	l, b, e := take(b, 4)
	if e != api.OK {
		return api.Event{}, nil, e
	}
	x = api.Event{Dot: dot(l[0], l[1]), Time: l[2], Kind: l[3]}
	size := map[int]int{api.Sample: 2, api.Set: 9, api.Del: 2}[x.Kind]
	if size == 0 {
		return api.Event{}, nil, api.ErrForm
	}
	if l, b, e = take(b, size); e != api.OK {
		return api.Event{}, nil, e
	}
	x.Work = l[0]
	if x.Kind == api.Set {
		x.Policy = api.Policy{Min: l[1], Max: l[2], Goal: l[3], Slack: l[4], Up: l[5], Down: l[6], Cool: l[7]}
	}
	if last := l[size-1]; x.Kind == api.Sample {
		x.Value = last
	} else if last > 96 {
		return api.Event{}, nil, api.ErrLong
	} else if l, b, e = take(b, 2*last); e != api.OK {
		return api.Event{}, nil, e
	} else {
		x.Removes = dots(l...)
	}
	if !Right(x) {
		return api.Event{}, nil, api.ErrForm
	}
	return x, b, api.OK
}

// texts are bytes with all of a few that matter behind some beginnings, less of them, if less is asked for.
func texts(less int, f func(b []byte)) {
	few := []byte{0x00, 0x01, 0x02, 0x03, 0x04, 0x61, 0x80}
	var grow func(b []byte, more int)
	grow = func(b []byte, more int) {
		f(b)
		if more == 0 {
			return
		}
		for _, c := range few {
			grow(append(b[:len(b):len(b)], c), more-1)
		}
	}
	grow(nil, 6-less)
	grow([]byte{1, 2}, 5-less)
	grow([]byte{1, 2, 3, 3, 4}, 6-less)
	grow([]byte{1, 2, 3, 3, 4, 3}, 6-less)
	grow([]byte{1, 2, 3, 2, 4}, 4-less)
	grow([]byte{1, 2, 3, 2, 4, 1, 5, 10, 20}, 6-less)
}

// P7.3, P7.4: of any bytes Get tells what the document says; and what is got is put as it was.
func TestGotIsPut(t *testing.T) {
	events := 0
	texts(0, func(b []byte) {
		want, rest, wantE := told(b)
		if wantE == api.OK && len(rest) > 0 {
			want, wantE = api.Event{}, api.ErrForm
		}
		x, e := Get(b)
		if !same(x, want) || e != wantE {
			t.Fatalf("Get(%x) = %v, %d, want %v, %d", b, x, e, want, wantE)
		}
		if e != api.OK {
			return
		}
		events++
		if put, e := Put(x); !Right(x) || !bytes.Equal(put, b) || e != api.OK {
			t.Fatalf("%x is got as %v, and put as %x, %d", b, x, put, e)
		}
	})
	if events < 100 {
		t.Errorf("%d events were got", events)
	}
}

// toldAll is what the document says of the bytes of many.
func toldAll(b []byte) ([]api.Event, api.Errno) {
	count, size, e := number(b)
	if e != api.OK {
		return nil, e
	}
	if count > 768 {
		return nil, api.ErrLong
	}
	b = b[size:]
	var l []api.Event
	for range count {
		x, rest, e := told(b)
		if e != api.OK {
			return nil, e
		}
		l, b = append(l, x), rest
	}
	if len(b) > 0 {
		return nil, api.ErrForm
	}
	return l, api.OK
}

// P7.3, P7.4: the same of GetAll, of bytes behind each of a few numbers, and behind a right event.
func TestAllGotIsPut(t *testing.T) {
	lists := 0
	one := written(numbers(plainSample())...)
	check := func(b []byte) {
		want, wantE := toldAll(b)
		l, e := GetAll(b)
		if !sameAll(l, want) || e != wantE {
			t.Fatalf("GetAll(%x) = %v, %d, want %v, %d", b, l, e, want, wantE)
		}
		if e != api.OK {
			return
		}
		lists++
		if put, e := PutAll(l); !bytes.Equal(put, b) || e != api.OK {
			t.Fatalf("%x is got as %v, and put as %x, %d", b, l, put, e)
		}
	}
	texts(1, func(b []byte) {
		check(append([]byte{1}, b...))
		check(append(append([]byte{2}, one...), b...))
		check(append(append([]byte{2}, b...), one...))
		if len(b) < 6 {
			check(b)
		}
	})
	if lists < 300 {
		t.Errorf("%d lists were got", lists)
	}
}

// P7.4: of the bytes of right events with one byte changed, what is got is put as it was.
func TestChangedGotIsPut(t *testing.T) {
	for _, x := range rights() {
		b := written(numbers(x)...)
		for i := range min(len(b), 40) {
			for _, c := range []byte{b[i] + 1, b[i] - 1, b[i] ^ 0x80, 0, 0x60} {
				text := slices.Clone(b)
				text[i] = c
				if got, e := Get(text); e == api.OK {
					if put, e := Put(got); !bytes.Equal(put, text) || e != api.OK {
						t.Fatalf("%x is got as %v, and put as %x, %d", text, got, put, e)
					}
				}
			}
		}
	}
}

// roomy is an event whose Removes have spare room behind them, of dots that are easy to tell.
func roomy(e api.Event) api.Event {
	return changed(e, func(e *api.Event) {
		n := len(e.Removes)
		e.Removes = append(e.Removes, dots(-7, -7, -7, -7, -7, -7, -7, -7)...)[:n]
	})
}

// untouched: the event, its Removes and their spare room are as roomy left them.
func untouched(e, before api.Event) bool {
	room := e.Removes[len(e.Removes) : len(e.Removes)+4]
	return same(e, before) && slices.Equal(room, dots(-7, -7, -7, -7, -7, -7, -7, -7))
}

// scribble writes over a list and its spare room.
func scribble[T any](l []T, with T) {
	l = l[:cap(l)]
	for i := range l {
		l[i] = with
	}
}

// Rule 4: what is handed in is not changed, its spare room neither.
func TestTouchesNothing(t *testing.T) {
	for _, x := range append(rights(), wrongs()...) {
		a := roomy(x)
		l := append(make([]api.Event, 0, 4), a, plainSample())
		room := l[:4]
		room[2], room[3] = roomy(plainSet()), roomy(plainDel())
		Right(a)
		RightPolicy(a.Policy)
		Later(a, a)
		put, _ := Put(a)
		scribble(put, 0xdd)
		all, _ := PutAll(l)
		scribble(all, 0xdd)
		if !untouched(a, x) || !untouched(l[0], x) || !same(l[1], plainSample()) || !untouched(room[2], plainSet()) || !untouched(room[3], plainDel()) {
			t.Fatalf("%v was changed", x)
		}
	}
}

// Rule 4: Get and GetAll keep none of their bytes, and change none.
func TestGetTouchesNothing(t *testing.T) {
	l := rights()
	for _, x := range l {
		b := written(numbers(x)...)
		room := append(slices.Clone(b), bytes.Repeat([]byte{0xee}, 8)...)
		before := slices.Clone(room)
		got, _ := Get(room[:len(b)])
		if !bytes.Equal(room, before) {
			t.Fatal("Get wrote into what it was given")
		}
		scribble(room, 0xdd)
		if !same(got, x) {
			t.Fatal("Get answers memory that it was given")
		}
	}
	b := written(numbersOfAll(l)...)
	room := append(slices.Clone(b), bytes.Repeat([]byte{0xee}, 8)...)
	before := slices.Clone(room)
	got, e := GetAll(room[:len(b)])
	if !bytes.Equal(room, before) {
		t.Fatal("GetAll wrote into what it was given")
	}
	scribble(room, 0xdd)
	if !sameAll(got, l) || e != api.OK {
		t.Fatal("GetAll answers memory that it was given")
	}
}

// Rule 4: no two lists of an answer share memory, spare room included.
func TestListsApart(t *testing.T) {
	l := rights()
	got, _ := GetAll(written(numbersOfAll(l)...))
	for i := range got {
		scribble(got[i].Removes, dot(-9, -9))
		got[i].Removes = nil
		for k := i + 1; k < len(got); k++ {
			if !same(got[k], l[k]) {
				t.Fatalf("%d and %d share memory", i, k)
			}
		}
	}
}

// Rule 5: what is answered hangs on no call ahead, and no answer is changed by a call behind it.
func TestSameAgain(t *testing.T) {
	l := []api.Event{plainSet(), plainDel(), plainSample()}
	b, _ := Put(plainSet())
	all, _ := PutAll(l)
	x, _ := Get(b)
	list, _ := GetAll(all)
	for range 2 {
		again, e := Put(plainSet())
		if !bytes.Equal(again, b) || e != api.OK {
			t.Errorf("Put again: %x, %d", again, e)
		}
		scribble(again, 0xdd)
		again, e = PutAll(l)
		if !bytes.Equal(again, all) || e != api.OK {
			t.Errorf("PutAll again: %x, %d", again, e)
		}
		scribble(again, 0xdd)
		other, e := Get(b)
		if !same(other, plainSet()) || e != api.OK {
			t.Errorf("Get again: %v, %d", other, e)
		}
		scribble(other.Removes, dot(5, 5))
		others, e := GetAll(all)
		if !sameAll(others, l) || e != api.OK {
			t.Errorf("GetAll again: %v, %d", others, e)
		}
		scribble(others[0].Removes, dot(5, 5))
		scribble(others, api.Event{})
		refused(t, b[:3], api.ErrShort)
		refusedAll(t, all[:9], api.ErrShort)
	}
	if !same(x, plainSet()) || !sameAll(list, l) {
		t.Errorf("%v, %v", x, list)
	}
}

// P1: very many dots, events and bytes end soon in each call.
func TestVeryMany(t *testing.T) {
	e := changed(plainDel(), func(e *api.Event) { e.Removes = slices.Repeat(world(), 2000) })
	if Right(e) {
		t.Error("very many Removes are right")
	}
	if b, err := Put(e); len(b) != 0 || err != api.ErrArg {
		t.Errorf("Put: %d bytes, %d", len(b), err)
	}
	if b, err := PutAll(slices.Repeat([]api.Event{plainSample()}, 100000)); len(b) != 0 || err != api.ErrLong {
		t.Errorf("PutAll: %d bytes, %d", len(b), err)
	}
	for _, c := range []byte{0, 1, 2, 3, 0x60, 0x80, 0xff} {
		b := bytes.Repeat([]byte{c}, 1<<20)
		if x, e := Get(b); e == api.OK || !same(x, api.Event{}) {
			t.Errorf("Get of very many bytes %x: %v, %d", c, x, e)
		}
		if l, e := GetAll(b); e == api.OK || len(l) != 0 {
			t.Errorf("GetAll of very many bytes %x: %d, %d", c, len(l), e)
		}
	}
	// As many events as may be, with as many Removes as may be.
	full := slices.Repeat([]api.Event{{Dot: dot(7, 96), Time: top, Kind: api.Del, Work: 7, Removes: world()[:96]}}, 768)
	b, err := PutAll(full)
	if l, e := GetAll(b); err != api.OK || e != api.OK || !sameAll(l, full) {
		t.Errorf("%d, %d", err, e)
	}
}
