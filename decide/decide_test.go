package decide

import (
	"math"
	"math/rand"
	"slices"
	"testing"

	"murmur/api"
)

const top = api.Top

// example is the policy of the document's example; wide is one that allows all, of a Goal and a Slack, and steps as far as may be.
func example() api.Policy {
	return api.Policy{Min: 1, Max: 9, Goal: 10, Slack: 10, Up: 2, Down: 1}
}
func wide(goal, slack int) api.Policy {
	return api.Policy{Min: 0, Max: 1000, Goal: goal, Slack: slack, Up: 1000, Down: 1000}
}

// changed is a policy with something done to it.
func changed(p api.Policy, do func(p *api.Policy)) api.Policy {
	do(&p)
	return p
}

// told are what the document says, without the layers below: a right policy, what is asked, and a step that is walked by ones.
func toldRight(p api.Policy) bool {
	return 0 <= p.Min && p.Min <= p.Max && p.Max <= 1000 &&
		1 <= p.Goal && p.Goal <= 1<<30 && 0 <= p.Slack && p.Slack <= 100 &&
		1 <= p.Up && p.Up <= 1000 && 1 <= p.Down && p.Down <= 1000 && 0 <= p.Cool && p.Cool <= 1000
}
func toldAsked(p api.Policy, load int) int {
	for n := p.Min; n < p.Max; n++ {
		if n*p.Goal >= load {
			return n
		}
	}
	return p.Max
}
func toldNear(p api.Policy, load, now int) bool {
	carried := now * p.Goal
	off := max(load-carried, carried-load)
	return now > 0 && min(100*off, top) <= min(p.Slack*carried, top)
}
func toldStep(p api.Policy, load, now int) (int, api.Errno) {
	if !toldRight(p) || now < 0 || now > 1000 {
		return 0, 2
	}
	load = max(0, min(load, top))
	wanted := toldAsked(p, load)
	if toldNear(p, load, now) {
		wanted = max(p.Min, min(now, p.Max))
	}
	n := now
	for i := 0; i < p.Up && n < wanted; i++ {
		n++
	}
	for i := 0; i < p.Down && n > wanted; i++ {
		n--
	}
	return n, 0
}

// toldStable is the least number from want to now that is no less than what was wished; where none is, it is now.
func toldStable(recent []int, want, now int) int {
	for want < now && slices.ContainsFunc(recent, func(n int) bool { return n > want }) {
		want++
	}
	return want
}

// walk is each number from now on to where steps rest, now the first; false: they don't.
func walk(p api.Policy, load, now int) ([]int, bool) {
	l := []int{now}
	for range 2000 {
		next, e := Step(p, load, now)
		if e != api.OK {
			return l, false
		}
		if next == now {
			return l, true
		}
		l, now = append(l, next), next
	}
	return l, false
}

// far is how far a number is from what lies within Min and Max.
func far(p api.Policy, n int) int { return max(p.Min-n, n-p.Max, 0) }

// stepsAre: Step is what the document says; and as far as P11.4 says.
func stepsAre(t *testing.T, p api.Policy, load, now int) {
	t.Helper()
	want, wantErr := toldStep(p, load, now)
	got, e := Step(p, load, now)
	if got != want || e != wantErr {
		t.Fatalf("Step of %+v, %d, %d: %d, %d, want %d, %d", p, load, now, got, e, want, wantErr)
	}
	if e == api.OK && (got-now > p.Up || now-got > p.Down || far(p, got) > far(p, now)) {
		t.Fatalf("Step of %+v, %d, %d goes to %d", p, load, now, got)
	}
}

// walkIs: steps of one load never turn back, rest within 1000, at what is allowed; and Steps tells of them.
func walkIs(t *testing.T, p api.Policy, load, now int) {
	t.Helper()
	l, rests := walk(p, load, now)
	if !rests || len(l) > 1001 {
		t.Fatalf("steps of %+v, %d, %d don't rest: %v", p, load, now, l)
	}
	end := l[len(l)-1]
	if end < p.Min || end > p.Max {
		t.Fatalf("steps of %+v, %d, %d rest at %d", p, load, now, end)
	}
	for i := 1; i < len(l); i++ {
		if (l[i] > l[i-1]) != (end > now) {
			t.Fatalf("steps of %+v, %d, %d turn back: %v", p, load, now, l)
		}
	}
	if n, got, e := Steps(p, load, now); n != len(l)-1 || got != end || e != api.OK {
		t.Fatalf("Steps of %+v, %d, %d: %d, %d, %d, want %d, %d", p, load, now, n, got, e, len(l)-1, end)
	}
}

// P11.1, P11.3: the document's example; and those of the whole and of layer 24 that are steps.
func TestExample(t *testing.T) {
	p := example()
	for _, x := range []struct{ load, want int }{{54, 5}, {56, 6}, {99, 7}, {0, 4}} {
		if n, e := Step(p, x.load, 5); n != x.want || e != api.OK {
			t.Errorf("Step of %d: %d, %d, want %d", x.load, n, e, x.want)
		}
	}
	if n, end, e := Steps(p, 99, 5); n != 2 || end != 9 || e != api.OK {
		t.Errorf("Steps of 99: %d, %d, %d", n, end, e)
	}
	p = api.Policy{Max: 9, Goal: 10, Up: 2, Down: 1}
	if n, e := Step(p, 42, 0); n != 2 || e != api.OK {
		t.Errorf("Step of 42, 0: %d, %d", n, e)
	}
	if n, e := Step(p, 50, 2); n != 4 || e != api.OK {
		t.Errorf("Step of 50, 2: %d, %d", n, e)
	}
}

// wrongPolicies are those that aren't right, each in one way; rightPolicies are at the edges.
func wrongPolicies() []api.Policy {
	l := []api.Policy{{}, {Max: 5, Up: 1, Down: 1}}
	for _, set := range fields() {
		for _, n := range []int{set.lo - 1, set.hi + 1, math.MinInt, math.MaxInt} {
			l = append(l, changed(example(), func(p *api.Policy) { *set.of(p) = n }))
		}
	}
	return append(l,
		changed(example(), func(p *api.Policy) { p.Min, p.Max = 10, 9 }),
		changed(example(), func(p *api.Policy) { p.Min, p.Max = 1, 0 }),
		changed(example(), func(p *api.Policy) { p.Min, p.Max = 1001, 1001 }),
		changed(example(), func(p *api.Policy) { p.Min, p.Max = -1, -1 }),
		changed(example(), func(p *api.Policy) { p.Min, p.Max = 1000, 999 }),
	)
}
func rightPolicies() []api.Policy {
	var l []api.Policy
	for _, set := range fields() {
		for _, n := range []int{set.lo, set.hi, (set.lo + set.hi) / 2} {
			l = append(l, changed(example(), func(p *api.Policy) { *set.of(p) = n }))
		}
	}
	for _, m := range [][2]int{{0, 0}, {0, 1}, {1, 1}, {9, 9}, {0, 1000}, {1000, 1000}, {999, 1000}, {400, 600}} {
		l = append(l, changed(example(), func(p *api.Policy) { p.Min, p.Max = m[0], m[1] }))
	}
	return l
}

// field is a number of a policy, its least and its greatest, where the others are the example's.
type field struct {
	of     func(p *api.Policy) *int
	lo, hi int
}

func fields() []field {
	return []field{
		{func(p *api.Policy) *int { return &p.Min }, 0, 9},
		{func(p *api.Policy) *int { return &p.Max }, 1, 1000},
		{func(p *api.Policy) *int { return &p.Goal }, 1, 1 << 30},
		{func(p *api.Policy) *int { return &p.Slack }, 0, 100},
		{func(p *api.Policy) *int { return &p.Up }, 1, 1000},
		{func(p *api.Policy) *int { return &p.Down }, 1, 1000},
		{func(p *api.Policy) *int { return &p.Cool }, 0, 1000},
	}
}

// P11.1, P11.3: a policy that isn't right, in each way; and those at the edges, which are.
func TestPolicies(t *testing.T) {
	for _, p := range wrongPolicies() {
		for _, x := range [][2]int{{0, 0}, {54, 5}, {99, 1000}, {-1, 1}, {top + 1, 3}, {50, -1}, {50, 1001}} {
			if n, e := Step(p, x[0], x[1]); n != 0 || e != api.ErrArg {
				t.Errorf("Step of %+v, %v: %d, %d", p, x, n, e)
			}
			if n, end, e := Steps(p, x[0], x[1]); n != 0 || end != 0 || e != api.ErrArg {
				t.Errorf("Steps of %+v, %v: %d, %d, %d", p, x, n, end, e)
			}
		}
	}
	for _, p := range rightPolicies() {
		for _, now := range []int{0, 1, 5, 9, 10, 1000} {
			for _, load := range []int{0, 54, 99, top} {
				if _, e := Step(p, load, now); e != api.OK {
					t.Errorf("Step of %+v, %d, %d: %d", p, load, now, e)
				}
				stepsAre(t, p, load, now)
				walkIs(t, p, load, now)
			}
		}
	}
}

// P11.1, P11.3: a number of replicas that may not be; and the least and the greatest that may.
func TestNow(t *testing.T) {
	p := example()
	for _, now := range []int{-1, 1001, -1000, 1 << 32, math.MinInt, math.MaxInt} {
		for _, load := range []int{0, 54, -1, top, math.MaxInt} {
			if n, e := Step(p, load, now); n != 0 || e != api.ErrArg {
				t.Errorf("Step of %d, %d: %d, %d", load, now, n, e)
			}
			if n, end, e := Steps(p, load, now); n != 0 || end != 0 || e != api.ErrArg {
				t.Errorf("Steps of %d, %d: %d, %d, %d", load, now, n, end, e)
			}
		}
	}
	for _, x := range []struct{ load, now, want int }{{0, 0, 1}, {99, 0, 2}, {0, 1, 1}, {99, 1, 3}, {0, 1000, 999}, {99, 1000, 999}, {top, 1000, 999}} {
		if n, e := Step(p, x.load, x.now); n != x.want || e != api.OK {
			t.Errorf("Step of %d, %d: %d, %d, want %d", x.load, x.now, n, e, x.want)
		}
	}
}

// P11.1: loads at their edges, and beyond them.
func TestLoads(t *testing.T) {
	goal := 1 << 30
	for _, x := range []struct {
		name            string
		p               api.Policy
		load, now, want int
	}{
		{"none", wide(10, 0), 0, 5, 0},
		{"one", wide(10, 0), 1, 5, 1},
		{"one below none", wide(10, 0), -1, 5, 0},
		{"the least", wide(10, 0), math.MinInt, 5, 0},
		{"Top", wide(goal, 0), top, 5, 1000},
		{"one above Top", wide(goal, 0), top + 1, 5, 1000},
		{"the greatest", wide(goal, 0), math.MaxInt, 5, 1000},
		// Off is of the load as it counts: one far below 0 is within a Slack of 100, as 0 is.
		{"none, within the slack", wide(10, 100), 0, 5, 5},
		{"one below none, within the slack", wide(10, 100), -1, 5, 5},
		{"the least, within the slack", wide(10, 100), math.MinInt, 5, 5},
		{"Top, out of the slack", wide(goal, 1), top, 900, 1000},
		{"Top, within the slack", wide(goal, 100), top, 512, 512},
		{"one above Top, within the slack", wide(goal, 100), top + 1, 512, 512},
		{"the greatest, within the slack", wide(goal, 100), math.MaxInt, 512, 512},
		{"the least, a Min", changed(wide(10, 0), func(p *api.Policy) { p.Min = 3 }), math.MinInt, 5, 3},
		{"the greatest, a Max", changed(wide(10, 0), func(p *api.Policy) { p.Max = 7 }), math.MaxInt, 5, 7},
	} {
		if n, e := Step(x.p, x.load, x.now); n != x.want || e != api.OK {
			t.Errorf("%s: %d, %d, want %d", x.name, n, e, x.want)
		}
		stepsAre(t, x.p, x.load, x.now)
	}
}

// P11.1: the slack's edges, on either side: what is carried is 20 times 1000, of which 7 hundredths are 1400.
func TestSlack(t *testing.T) {
	for _, x := range []struct {
		name              string
		goal, slack       int
		load, now, wanted int
	}{
		{"just off, above", 1000, 7, 21400, 20, 20},
		{"one less, above", 1000, 7, 21399, 20, 20},
		{"one more, above", 1000, 7, 21401, 20, 22},
		{"just off, below", 1000, 7, 18600, 20, 20},
		{"one less, below", 1000, 7, 18601, 20, 20},
		{"one more, below", 1000, 7, 18599, 20, 19},
		{"not off", 1000, 7, 20000, 20, 20},
		// 5 hundredths of 30 are 1 and a half.
		{"no whole number, less, above", 10, 5, 31, 3, 3},
		{"no whole number, more, above", 10, 5, 32, 3, 4},
		{"no whole number, more, below", 3, 16, 14, 6, 5},
		{"no whole number, less, below", 3, 17, 15, 6, 6},
		{"no Slack, not off", 1000, 0, 20000, 20, 20},
		{"no Slack, one more", 1000, 0, 20001, 20, 21},
		{"no Slack, one less", 1000, 0, 19999, 20, 20},
		{"no Slack, a Goal less", 1000, 0, 19000, 20, 19},
		{"a Slack of 1, just off", 1000, 1, 20200, 20, 20},
		{"a Slack of 1, one more", 1000, 1, 20201, 20, 21},
		{"the greatest Slack, just off, above", 1000, 100, 40000, 20, 20},
		{"the greatest Slack, one more, above", 1000, 100, 40001, 20, 41},
		{"the greatest Slack, just off, below", 1000, 100, 0, 20, 20},
		{"a Slack of 99, just off, below", 1000, 99, 200, 20, 20},
		{"a Slack of 99, one more, below", 1000, 99, 199, 20, 1},
		{"one replica, just off", 100, 10, 110, 1, 1},
		{"one replica, one more", 100, 10, 111, 1, 2},
	} {
		p := wide(x.goal, x.slack)
		if n, e := Step(p, x.load, x.now); n != x.wanted || e != api.OK {
			t.Errorf("%s: %d, %d, want %d", x.name, n, e, x.wanted)
		}
		stepsAre(t, p, x.load, x.now)
	}
}

// P11.1: of no replicas Slack says nothing.
func TestNoReplicas(t *testing.T) {
	for _, slack := range []int{0, 1, 50, 100} {
		p := wide(10, slack)
		for _, x := range []struct{ load, want int }{{-1, 0}, {0, 0}, {1, 1}, {9, 1}, {10, 1}, {11, 2}, {10000, 1000}, {10001, 1000}, {top, 1000}} {
			if n, e := Step(p, x.load, 0); n != x.want || e != api.OK {
				t.Errorf("Slack %d, load %d: %d, %d, want %d", slack, x.load, n, e, x.want)
			}
		}
		p.Min, p.Max = 3, 3
		for _, load := range []int{0, 1, 30, top} {
			if n, e := Step(p, load, 0); n != 3 || e != api.OK {
				t.Errorf("Slack %d, load %d: %d, %d, want 3", slack, load, n, e)
			}
		}
	}
}

// P11.1: what is within the slack is within Min and Max too, not what is asked; and no farther than one step.
func TestSlackOutside(t *testing.T) {
	for _, x := range []struct {
		name                   string
		min, max, up, down     int
		slack, load, now, want int
	}{
		{"below Min, the load above it", 5, 9, 1000, 1000, 100, 60, 3, 5},
		{"below Min, the load below it", 5, 9, 1000, 1000, 100, 0, 3, 5},
		{"below Min, a short step", 5, 9, 1, 1000, 100, 60, 3, 4},
		{"below Min, a step that fits", 5, 9, 2, 1000, 100, 60, 3, 5},
		{"above Max, the load below it", 5, 9, 1000, 1000, 100, 60, 12, 9},
		{"above Max, the load above it", 5, 9, 1000, 1000, 100, 200, 12, 9},
		{"above Max, a short step", 5, 9, 1000, 2, 100, 60, 12, 10},
		{"above Max, a step that fits", 5, 9, 1000, 3, 100, 60, 12, 9},
		{"below Min, not within the slack", 5, 9, 1000, 1000, 99, 60, 3, 6},
		{"above Max, not within the slack", 5, 9, 1000, 1000, 49, 60, 12, 6},
		{"at Min", 5, 9, 1000, 1000, 40, 70, 5, 5},
		{"at Max", 5, 9, 1000, 1000, 40, 60, 9, 9},
		{"one below Min", 5, 9, 1000, 1000, 100, 80, 4, 5},
		{"one above Max", 5, 9, 1000, 1000, 100, 60, 10, 9},
		{"a Max of 0", 0, 0, 1000, 1000, 100, 60, 6, 0},
	} {
		p := api.Policy{Min: x.min, Max: x.max, Goal: 10, Slack: x.slack, Up: x.up, Down: x.down}
		if n, e := Step(p, x.load, x.now); n != x.want || e != api.OK {
			t.Errorf("%s: %d, %d, want %d", x.name, n, e, x.want)
		}
		stepsAre(t, p, x.load, x.now)
	}
}

// P11.1, P11.4: what is wanted just as far as one step leads, one less and one more.
func TestPace(t *testing.T) {
	for _, x := range []struct {
		name                          string
		min, max, up, down, load, now int
		want                          int
	}{
		{"one less than Up", 0, 1000, 5, 1, 240, 20, 24},
		{"just Up", 0, 1000, 5, 1, 250, 20, 25},
		{"one more than Up", 0, 1000, 5, 1, 260, 20, 25},
		{"one less than Down", 0, 1000, 1, 5, 160, 20, 16},
		{"just Down", 0, 1000, 1, 5, 150, 20, 15},
		{"one more than Down", 0, 1000, 1, 5, 140, 20, 15},
		{"up by one", 0, 1000, 1, 1000, 10000, 20, 21},
		{"down by one", 0, 1000, 1000, 1, 0, 20, 19},
		{"Up from none", 0, 1000, 7, 1, 70, 0, 7},
		{"Up from none, one more", 0, 1000, 7, 1, 71, 0, 7},
		{"Down to none", 0, 1000, 1, 7, 0, 7, 0},
		{"Down, but for one, to none", 0, 1000, 1, 7, 0, 8, 1},
		{"more than there are", 0, 1000, 1, 1000, 0, 7, 0},
		{"all at once", 0, 1000, 1000, 1, 10000, 0, 1000},
		{"all but one", 0, 1000, 999, 1, 10000, 0, 999},
		{"none at once", 0, 1000, 1, 1000, 0, 1000, 0},
		{"none but one", 0, 1000, 1, 999, 0, 1000, 1},
		{"to Min, one more than Up", 30, 40, 9, 1, 0, 20, 29},
		{"to Min, just Up", 30, 40, 10, 1, 0, 20, 30},
		{"to Min, one less than Up", 30, 40, 11, 1, 0, 20, 30},
		{"to Max, one more than Down", 3, 10, 1, 9, 990, 20, 11},
		{"to Max, just Down", 3, 10, 1, 10, 990, 20, 10},
		{"to Max, one less than Down", 3, 10, 1, 11, 990, 20, 10},
		{"nowhere", 0, 1000, 1000, 1000, 200, 20, 20},
	} {
		p := api.Policy{Min: x.min, Max: x.max, Goal: 10, Up: x.up, Down: x.down}
		if n, e := Step(p, x.load, x.now); n != x.want || e != api.OK {
			t.Errorf("%s: %d, %d, want %d", x.name, n, e, x.want)
		}
		stepsAre(t, p, x.load, x.now)
	}
}

// P11.1: so great a Goal that layer 1's bounds count: 100 times off is Top from an off of 10995116278 on.
func TestGreatGoal(t *testing.T) {
	goal := 1 << 30
	all := 1000 * goal
	for _, x := range []struct {
		name            string
		goal, slack     int
		load, now, want int
	}{
		{"not off", goal, 0, all, 1000, 1000},
		{"one less", goal, 0, all - 1, 1000, 1000},
		{"one Goal less", goal, 0, all - goal, 1000, 999},
		{"Top", goal, 0, top, 1000, 1000},
		{"both are Top", goal, 2, 0, 1000, 1000},
		{"both are Top, the greatest Slack", goal, 100, 0, 1000, 1000},
		{"Slack times carried isn't", goal, 1, 0, 1000, 0},
		// 2 times 512 Goals are just Top; 2 times 511 aren't.
		{"just Top", goal, 2, 0, 512, 512},
		{"just not Top", goal, 2, 0, 511, 0},
		{"just Top, above", goal, 2, top, 512, 512},
		{"just not Top, above", goal, 2, top, 511, 1000},
		{"just Top, a Goal of one less", goal - 1, 2, 0, 512, 0},
		{"both are below Top", goal, 1, all - all/100, 1000, 1000},
		{"both are below Top, one more", goal, 1, all - all/100 - 1, 1000, 990},
		// 10 hundredths of 102 Goals are 10952166604 and a bit: 100 times that is still below Top, but of 103 Goals it isn't.
		{"below Top, just off", goal, 10, 102*goal - 102*goal/10, 102, 102},
		{"below Top, one more off", goal, 10, 102*goal - 102*goal/10 - 1, 102, 92},
		{"Top, off by all", goal, 10, 0, 103, 103},
		{"one replica", goal, 100, 2 * goal, 1, 1},
		{"one replica, one more", goal, 100, 2*goal + 1, 1, 3},
	} {
		p := wide(x.goal, x.slack)
		if n, e := Step(p, x.load, x.now); n != x.want || e != api.OK {
			t.Errorf("%s: %d, %d, want %d", x.name, n, e, x.want)
		}
		stepsAre(t, p, x.load, x.now)
	}
}

// P11.1, P11.3, P11.4: all small policies, loads and numbers of replicas.
func TestSmall(t *testing.T) {
	for _, bounds := range [][2]int{{0, 0}, {0, 1}, {0, 6}, {1, 3}, {2, 2}, {3, 5}, {4, 20}} {
		for _, goal := range []int{1, 2, 3, 10} {
			for _, slack := range []int{0, 1, 10, 34, 50, 99, 100} {
				for _, pace := range [][2]int{{1, 1}, {1, 2}, {2, 1}, {3, 2}, {1, 1000}, {1000, 1}, {1000, 1000}} {
					p := api.Policy{Min: bounds[0], Max: bounds[1], Goal: goal, Slack: slack, Up: pace[0], Down: pace[1]}
					for now := range 8 {
						for load := -1; load <= 8*goal; load++ {
							stepsAre(t, p, load, now)
							walkIs(t, p, load, now)
						}
					}
				}
			}
		}
	}
}

// drawer draws numbers, many of them about edges.
type drawer struct{ r *rand.Rand }

func (d drawer) number(lo, hi int) int {
	switch d.r.Intn(6) {
	case 0:
		return lo
	case 1:
		return hi
	case 2:
		return lo + d.r.Intn(min(hi-lo, 10)+1)
	case 3:
		return hi - d.r.Intn(min(hi-lo, 10)+1)
	}
	return lo + d.r.Intn(hi-lo+1)
}

// policy is a right one.
func (d drawer) policy() api.Policy {
	p := api.Policy{Max: d.number(0, 1000), Goal: d.number(1, 1<<d.number(0, 30)), Slack: d.number(0, 100), Up: d.number(1, 1000), Down: d.number(1, 1000), Cool: d.number(0, 1000)}
	p.Min = d.number(0, p.Max)
	return p
}

// load is one that is about what is carried, about the slack's edges, or anywhere.
func (d drawer) load(p api.Policy, now int) int {
	carried := now * p.Goal
	off := p.Slack*carried/100 + d.number(-2, 2)
	switch d.r.Intn(6) {
	case 0:
		return carried + off
	case 1:
		return carried - off
	case 2:
		return p.Goal*d.number(0, 1000) + d.number(-1, 1)
	case 3:
		return carried + d.number(-10995116280, 10995116280)
	case 4:
		return d.number(-5, top+5)
	}
	return []int{math.MinInt, math.MaxInt, -1, 0, top, top + 1}[d.r.Intn(6)]
}

// P11.1, P11.3, P11.4: many policies and loads by chance, followed one by one.
func TestByChance(t *testing.T) {
	d := drawer{rand.New(rand.NewSource(11))}
	for range 20000 {
		p, now := d.policy(), d.number(0, 1000)
		load := d.load(p, now)
		l, _ := walk(p, load, now)
		walkIs(t, p, load, now)
		for _, n := range l[:min(len(l), 5)] {
			stepsAre(t, p, load, n)
		}
		stepsAre(t, p, load, l[len(l)-1])
	}
}

// P11.3, P11.4: steps of one load from each number of replicas on.
func TestFromEverywhere(t *testing.T) {
	slow := changed(wide(10, 20), func(p *api.Policy) { p.Up, p.Down = 1, 1 })
	great := changed(wide(1<<30, 2), func(p *api.Policy) { p.Min, p.Up, p.Down = 300, 7, 3 })
	for _, p := range []api.Policy{example(), wide(10, 20), slow, great} {
		for _, load := range []int{0, 50, 5000, 300 << 30, top} {
			for now := range 1001 {
				stepsAre(t, p, load, now)
				walkIs(t, p, load, now)
			}
		}
	}
}

// P11.3: Steps, by cases written out.
func TestSteps(t *testing.T) {
	slow := api.Policy{Min: 0, Max: 1000, Goal: 1, Up: 1, Down: 1}
	for _, x := range []struct {
		name         string
		p            api.Policy
		load, now    int
		count, where int
	}{
		{"rest at once", example(), 50, 5, 0, 5},
		{"rest at once, within the slack", example(), 54, 5, 0, 5},
		{"rest at once, at Min", example(), 0, 1, 0, 1},
		{"rest at once, at Max", example(), top, 9, 0, 9},
		{"rest at once, of none", slow, 0, 0, 0, 0},
		{"rest at once, of all", slow, 5000, 1000, 0, 1000},
		{"one up", example(), 56, 5, 1, 6},
		{"one down", example(), 40, 5, 1, 4},
		{"rest at once, out of the slack", example(), 44, 5, 0, 5},
		{"up", example(), 99, 5, 2, 9},
		{"up, the last one shorter", example(), 99, 6, 2, 9},
		{"up from none, to Min", example(), 0, 0, 1, 1},
		{"down", example(), 0, 9, 8, 1},
		{"down, into the slack", example(), 38, 9, 5, 4},
		{"down from all, to Max", example(), top, 1000, 991, 9},
		{"up, into the slack", changed(wide(10, 40), func(p *api.Policy) { p.Up = 3 }), 100, 1, 3, 10},
		{"up, to rest ahead of what was asked", changed(wide(10, 40), func(p *api.Policy) { p.Up = 3 }), 100, 2, 2, 8},
		{"down, to rest ahead of what was asked", changed(wide(10, 40), func(p *api.Policy) { p.Down = 3 }), 100, 20, 2, 14},
		{"at once, up", wide(1, 0), 5000, 0, 1, 1000},
		{"at once, down", wide(1, 0), 0, 1000, 1, 0},
		{"just 1000, up", slow, 5000, 0, 1000, 1000},
		{"just 1000, up, and not one more", slow, 1000, 0, 1000, 1000},
		{"999, up", slow, 999, 0, 999, 999},
		{"999, up from one", slow, 5000, 1, 999, 1000},
		{"just 1000, down", slow, 0, 1000, 1000, 0},
		{"just 1000, down, of a load below none", slow, math.MinInt, 1000, 1000, 0},
		{"999, down", slow, 1, 1000, 999, 1},
		{"500, by two", changed(slow, func(p *api.Policy) { p.Down = 2 }), 0, 1000, 500, 0},
		{"334, by three", changed(slow, func(p *api.Policy) { p.Up = 3 }), 5000, 0, 334, 1000},
	} {
		if n, end, e := Steps(x.p, x.load, x.now); n != x.count || end != x.where || e != api.OK {
			t.Errorf("%s: %d, %d, %d, want %d, %d", x.name, n, end, e, x.count, x.where)
		}
		walkIs(t, x.p, x.load, x.now)
	}
}

// P11.2: Stable, by cases written out.
func TestStable(t *testing.T) {
	const least, most = math.MinInt, math.MaxInt
	for _, x := range []struct {
		name      string
		recent    []int
		want, now int
		then      int
	}{
		{"above now", nil, 7, 5, 7},
		{"above now, more wished", []int{9}, 7, 5, 7},
		{"above now, less wished", []int{1}, 7, 5, 7},
		{"one above now", []int{9, 6}, 6, 5, 6},
		{"at now", nil, 5, 5, 5},
		{"at now, more wished", []int{9}, 5, 5, 5},
		{"at now, less wished", []int{3}, 5, 5, 5},
		{"one below now", []int{5}, 4, 5, 5},
		{"below now, none wished", nil, 3, 5, 3},
		{"below now, an empty list", []int{}, 3, 5, 3},
		{"below now, less wished", []int{1, 2, 0}, 3, 5, 3},
		{"below now, the same wished", []int{3, 3}, 3, 5, 3},
		{"below now, more wished, but less than now", []int{4}, 3, 5, 4},
		{"below now, just now wished", []int{5}, 3, 5, 5},
		{"below now, one more than now wished", []int{6}, 3, 5, 5},
		{"below now, much more wished", []int{1000}, 3, 5, 5},
		{"the greatest stands first", []int{6, 4, 2}, 1, 9, 6},
		{"the greatest stands last", []int{2, 4, 6}, 1, 9, 6},
		{"the greatest stands in the midst", []int{2, 6, 4}, 1, 9, 6},
		{"above now among others", []int{2, 20, 4}, 1, 9, 9},
		{"the greatest twice", []int{6, 1, 6}, 1, 9, 6},
		{"many", []int{1, 2, 3, 4, 5, 6, 7, 8, 9, 10, 11, 12, 13, 14, 15, 16, 17}, 0, 900, 17},
		{"below 0 wished", []int{-1, -5}, 3, 5, 3},
		{"below 0 wanted", []int{-3}, -5, 5, -3},
		{"below 0 wanted, less wished", []int{-9}, -5, 5, -5},
		{"below 0 wanted, none wished", nil, -5, 5, -5},
		{"all below 0", []int{-2, -9}, -7, -4, -4},
		{"all below 0, in between", []int{-5, -9}, -7, -4, -5},
		{"below 0, at now", []int{3}, -4, -4, -4},
		{"below 0, above now", []int{3}, -3, -4, -3},
		{"0 wished", []int{0}, -1, 5, 0},
		{"the least wanted", []int{least}, least, most, least},
		{"the least wanted, none wished", nil, least, least + 1, least},
		{"the greatest wished", []int{least, most}, 0, most - 1, most - 1},
		{"the greatest of all wished", []int{most}, least, most, most},
		{"the greatest wanted", []int{least}, most, most, most},
		{"beyond Top", []int{top + 5}, top, top + 9, top + 5},
		{"below -Top", []int{-top - 5}, -top - 9, -top, -top - 5},
	} {
		if n := Stable(x.recent, x.want, x.now); n != x.then {
			t.Errorf("%s: %d, want %d", x.name, n, x.then)
		}
	}
}

// P11.2: all short lists of a few numbers, against the document's words; the order says nothing.
func TestStableOfAll(t *testing.T) {
	numbers := []int{-2, -1, 0, 1, 2, 3}
	lists := [][]int{nil}
	for i := 0; i < len(lists); i++ {
		if len(lists[i]) < 4 {
			for _, n := range numbers {
				lists = append(lists, append(slices.Clone(lists[i]), n))
			}
		}
	}
	for _, recent := range lists {
		back := slices.Clone(recent)
		slices.Reverse(back)
		for _, want := range numbers {
			for _, now := range numbers {
				told := toldStable(recent, want, now)
				if n, m := Stable(recent, want, now), Stable(back, want, now); n != told || m != told {
					t.Fatalf("Stable of %v, %d, %d: %d, backwards %d, want %d", recent, want, now, n, m, told)
				}
			}
		}
	}
}

// P11.2: what is handed in isn't changed, nor its spare room.
func TestStableChangesNothing(t *testing.T) {
	room := []int{8, 1, 7, 3, 99, 98}
	was := slices.Clone(room)
	if n := Stable(room[:4], 2, 6); n != 6 {
		t.Errorf("Stable: %d", n)
	}
	if !slices.Equal(room, was) {
		t.Errorf("the list is %v, was %v", room, was)
	}
}

// P1: whatever is handed in, a call ends, and answers the same again; an error has nothing beside it.
func TestAnything(t *testing.T) {
	d := drawer{rand.New(rand.NewSource(12))}
	odd := []int{math.MinInt, math.MinInt + 1, -top - 1, -1001, -1, 0, 1, 9, 100, 101, 1000, 1001, 1 << 30, 1<<30 + 1, top, top + 1, math.MaxInt - 1, math.MaxInt}
	pick := func() int { return odd[d.r.Intn(len(odd))] }
	for range 20000 {
		p := example()
		for _, f := range fields() {
			if d.r.Intn(4) == 0 {
				*f.of(&p) = pick()
			}
		}
		load, now := pick(), pick()
		stepsAre(t, p, load, now)
		n, end, e := Steps(p, load, now)
		if _, told := toldStep(p, load, now); e != told || e != api.OK && (n != 0 || end != 0) {
			t.Fatalf("Steps of %+v, %d, %d: %d, %d, %d", p, load, now, n, end, e)
		}
		if again, where, err := Steps(p, load, now); again != n || where != end || err != e {
			t.Fatalf("Steps of %+v, %d, %d: %d, %d, then %d, %d", p, load, now, n, end, again, where)
		}
		recent := []int{pick(), pick(), pick()}[:d.r.Intn(4)]
		want := pick()
		got := Stable(recent, want, now)
		if want >= now && got != want || want < now && (got < want || got > now || got != want && got != now && !slices.Contains(recent, got)) {
			t.Fatalf("Stable of %v, %d, %d: %d", recent, want, now, got)
		}
		for _, n := range recent {
			if want < now && got < min(n, now) {
				t.Fatalf("Stable of %v, %d, %d: %d", recent, want, now, got)
			}
		}
	}
}
