package window

import (
	"math"
	"math/rand"
	"slices"
	"testing"

	"murmur/api"
)

const top = api.Top

// dot is one, of two numbers.
func dot(node, seq int) api.Dot { return api.Dot{Node: node, Seq: seq} }

// sample is an ordinary event of the workload 3.
func sample(node, seq, value int) api.Event { return of(3, node, seq, value) }

// of is a Sample of any workload.
func of(work, node, seq, value int) api.Event {
	return api.Event{Dot: dot(node, seq), Time: 5, Kind: api.Sample, Work: work, Value: value}
}

// at is an event at another Time.
func at(time int, e api.Event) api.Event {
	e.Time = time
	return e
}

// row are samples of the workload 3 and a node, of those Values, their Seqs from 1 on: the newest stands last.
func row(node int, values ...int) []api.Event {
	var l []api.Event
	for i, v := range values {
		l = append(l, sample(node, i+1, v))
	}
	return l
}

// same says whether two events are the same, Removes of nil and none too; sameAll says it of lists.
func same(a, b api.Event) bool {
	return a.Dot == b.Dot && a.Time == b.Time && a.Kind == b.Kind && a.Work == b.Work && a.Value == b.Value && a.Policy == b.Policy && slices.Equal(a.Removes, b.Removes)
}
func sameAll(a, b []api.Event) bool { return slices.EqualFunc(a, b, same) }

// values are the Values of events.
func values(l []api.Event) []int {
	var out []int
	for _, e := range l {
		out = append(out, e.Value)
	}
	return out
}

// reverse is a list from its end; shuffled is one in an order by chance, the same one of one seed.
func reverse[T any](l []T) []T {
	l = slices.Clone(l)
	slices.Reverse(l)
	return l
}
func shuffled[T any](l []T, seed int64) []T {
	l = slices.Clone(l)
	rand.New(rand.NewSource(seed)).Shuffle(len(l), func(i, k int) { l[i], l[k] = l[k], l[i] })
	return l
}

// permutations are all orders of a list.
func permutations[T any](l []T) [][]T {
	if len(l) == 0 {
		return [][]T{nil}
	}
	var out [][]T
	for i := range l {
		for _, p := range permutations(slices.Concat(l[:i], l[i+1:])) {
			out = append(out, append([]T{l[i]}, p...))
		}
	}
	return out
}

// toldOf is what the document says of Of, without sorting: each sample stands behind as many as are ahead of it.
func toldOf(l []api.Event, work, node, size int) []api.Event {
	var fit []api.Event
	for _, e := range l {
		if e.Kind == 1 && e.Work == work && e.Dot.Node == node {
			fit = append(fit, e)
		}
	}
	out := make([]api.Event, len(fit))
	for i, e := range fit {
		place := 0
		for k, x := range fit {
			if x.Dot.Seq > e.Dot.Seq || x.Dot.Seq == e.Dot.Seq && k < i {
				place++
			}
		}
		out[place] = e
	}
	return out[:max(0, min(size, len(out)))]
}

// clamp and add are layer 1's, as its chapter tells them; two clamped numbers' sum doesn't go round.
func clamp(n int) int  { return max(-top, min(n, top)) }
func add(a, b int) int { return clamp(clamp(a) + clamp(b)) }

// toldMean is what it says of Mean: the least whole number that, so many times, is not below the sum.
func toldMean(l []api.Event, work, node, size int) (int, bool) {
	fit := toldOf(l, work, node, size)
	if len(fit) == 0 {
		return 0, false
	}
	sum := fit[0].Value
	for _, e := range fit[1:] {
		sum = add(sum, e.Value)
	}
	mean := clamp(sum)/len(fit) - 2
	for mean*len(fit) < clamp(sum) {
		mean++
	}
	return mean, true
}

// toldLoad is what it says of Load.
func toldLoad(l []api.Event, work, size int) (load, nodes int, e api.Errno) {
	if size < 1 || size > 16 {
		return 0, 0, 2
	}
	for node := 0; node < 8; node++ {
		if mean, ok := toldMean(l, work, node, size); ok {
			load, nodes = add(load, mean), nodes+1
		}
	}
	return load, nodes, 0
}

// sizes are windows, about few and many samples, about the bounds, and far beyond.
func sizes() []int {
	return []int{math.MinInt, -1, 0, 1, 2, 3, 4, 5, 15, 16, 17, 96, math.MaxInt - 1, math.MaxInt}
}

// places are workloads and nodes, about those that there are, and far beyond.
func places() []int { return []int{math.MinInt, -1, 0, 1, 3, 7, 8, math.MaxInt} }

// agreesAt: all that is answered of events, a workload and a size is what the document says.
func agreesAt(t *testing.T, l []api.Event, work, size int) {
	t.Helper()
	for _, node := range places() {
		if got, want := Of(l, work, node, size), toldOf(l, work, node, size); !sameAll(got, want) {
			t.Fatalf("of %v: Of %d, %d, %d are %v, want %v", l, work, node, size, got, want)
		}
		n, ok := Mean(l, work, node, size)
		if want, is := toldMean(l, work, node, size); n != want || ok != is {
			t.Fatalf("of %v: Mean of %d, %d, %d is %d, %v, want %d, %v", l, work, node, size, n, ok, want, is)
		}
	}
	load, nodes, e := Load(l, work, size)
	if want, many, fault := toldLoad(l, work, size); load != want || nodes != many || e != fault {
		t.Fatalf("of %v: Load of %d, %d is %d, %d, %d, want %d, %d, %d", l, work, size, load, nodes, e, want, many, fault)
	}
}

// agrees: the same of all workloads and sizes.
func agrees(t *testing.T, l []api.Event) {
	t.Helper()
	for _, work := range places() {
		for _, size := range sizes() {
			agreesAt(t, l, work, size)
		}
	}
}

// isMean and isLoad: a Mean, a Load of the workload 3 is that.
func isMean(t *testing.T, name string, l []api.Event, node, size, want int) {
	t.Helper()
	if n, ok := Mean(l, 3, node, size); n != want || !ok {
		t.Errorf("Mean of %s: %d, %v, want %d", name, n, ok, want)
	}
}
func isLoad(t *testing.T, name string, l []api.Event, size, want, many int) {
	t.Helper()
	if load, nodes, e := Load(l, 3, size); load != want || nodes != many || e != api.OK {
		t.Errorf("Load of %s: %d, %d, %d, want %d, %d", name, load, nodes, e, want, many)
	}
}

// noMean: there is no Mean, and nothing beside the false.
func noMean(t *testing.T, name string, l []api.Event, work, node, size int) {
	t.Helper()
	if n, ok := Mean(l, work, node, size); n != 0 || ok {
		t.Errorf("Mean of %s: %d, %v", name, n, ok)
	}
}

// P10.1, P10.2, P10.3: the document's example.
func TestExample(t *testing.T) {
	l := row(1, 4, 7, 8)
	if got := values(Of(l, 3, 1, 2)); !slices.Equal(got, []int{8, 7}) {
		t.Errorf("Of = %v", got)
	}
	isMean(t, "4, 7, 8", l, 1, 2, 8)
	isLoad(t, "4, 7, 8", l, 2, 8, 1)
	l = append(l, sample(2, 1, 1))
	isMean(t, "1", l, 2, 2, 1)
	isLoad(t, "4, 7, 8 and 1", l, 2, 9, 2)
}

// strange are events of the node 1 and the workload 3 that are no Samples.
func strange() []api.Event {
	l := []api.Event{
		{Dot: dot(1, 96), Time: 9, Kind: api.Set, Work: 3, Value: 77, Policy: api.Policy{Max: 5, Goal: 10, Up: 1, Down: 1}},
		{Dot: dot(1, 95), Time: 9, Kind: api.Del, Work: 3, Value: 77, Removes: []api.Dot{dot(1, 1)}},
	}
	for _, kind := range []int{0, 4, -1, 257, 1 + 1<<32, math.MinInt, math.MaxInt} {
		e := sample(1, math.MaxInt, 77)
		e.Kind = kind
		l = append(l, e)
	}
	return l
}

// others are Samples of other workloads and nodes.
func others() []api.Event {
	return []api.Event{
		of(2, 1, 96, 77), of(4, 1, 96, 77), of(-3, 1, 96, 77), of(259, 1, 96, 77), of(3+1<<32, 1, 96, 77),
		sample(0, 96, 77), sample(2, 96, 77), sample(-1, 96, 77), sample(257, 96, 77), sample(1+1<<32, 96, 77),
	}
}

// P10.1, P10.2, P10.3: no events, and none that counts; each size that Load takes is of no nodes then.
func TestNone(t *testing.T) {
	for _, l := range [][]api.Event{nil, {}, strange(), others(), slices.Concat(strange(), others()), make([]api.Event, 5)} {
		for _, size := range sizes() {
			if got := Of(l, 3, 1, size); len(got) != 0 {
				t.Errorf("Of %v: %v", l, got)
			}
			noMean(t, "none", l, 3, 1, size)
		}
		agrees(t, l)
	}
	for _, l := range [][]api.Event{nil, {}, strange(), make([]api.Event, 5), {of(2, 1, 1, 9), of(4, 1, 1, 9)}, {sample(-1, 1, 9), sample(8, 1, 9)}} {
		for size := 1; size <= 16; size++ {
			isLoad(t, "none", l, size, 0, 0)
		}
	}
}

// P10.1: Of, by cases written out; what is wanted are the Values.
func TestOf(t *testing.T) {
	rise, one := row(1, 4, 7, 8), row(1, 6)
	for _, x := range []struct {
		name string
		l    []api.Event
		size int
		want []int
	}{
		{"one", one, 1, []int{6}}, {"one, of two", one, 2, []int{6}}, {"one, of the most", one, math.MaxInt, []int{6}},
		{"one, of none", one, 0, nil}, {"one, of fewer than none", one, -1, nil}, {"one, of the fewest", one, math.MinInt, nil},
		{"three, of none", rise, 0, nil}, {"three, of fewer than none", rise, -1, nil}, {"three, of far fewer", rise, -3, nil}, {"three, of the fewest", rise, math.MinInt, nil},
		{"three, of one", rise, 1, []int{8}}, {"three, of two", rise, 2, []int{8, 7}}, {"three, of just as many", rise, 3, []int{8, 7, 4}},
		{"three, of one more", rise, 4, []int{8, 7, 4}}, {"three, of MaxWindow and more", rise, 17, []int{8, 7, 4}}, {"three, of the most", rise, math.MaxInt, []int{8, 7, 4}},
		{"Seqs that fall", reverse(rise), 2, []int{8, 7}},
		{"Seqs to and fro", []api.Event{sample(1, 5, 1), sample(1, 96, 2), sample(1, 1, 3), sample(1, 9, 4)}, 3, []int{2, 4, 1}},
		{"Seqs with gaps", []api.Event{sample(1, 2, 1), sample(1, 40, 2), sample(1, 90, 3)}, 2, []int{3, 2}},
		{"a greater Value, an older one", []api.Event{sample(1, 1, 99), sample(1, 2, 1)}, 1, []int{1}},
		{"a later Time, an older one", []api.Event{at(99, sample(1, 1, 1)), at(1, sample(1, 2, 2))}, 1, []int{2}},
		{"one Seq", []api.Event{sample(1, 5, 1), sample(1, 5, 2)}, 2, []int{1, 2}}, {"one Seq, the other way", []api.Event{sample(1, 5, 2), sample(1, 5, 1)}, 2, []int{2, 1}},
		{"one Seq, of one", []api.Event{sample(1, 5, 1), sample(1, 5, 2)}, 1, []int{1}}, {"one Seq, of one, the other way", []api.Event{sample(1, 5, 2), sample(1, 5, 1)}, 1, []int{2}},
		{"one Seq, a later Time behind", []api.Event{at(1, sample(1, 5, 1)), at(9, sample(1, 5, 2))}, 2, []int{1, 2}}, {"one Seq, a later Time ahead", []api.Event{at(9, sample(1, 5, 2)), at(1, sample(1, 5, 1))}, 2, []int{2, 1}},
		{"one Seq, between others", []api.Event{sample(1, 4, 1), sample(1, 5, 2), sample(1, 6, 3), sample(1, 5, 4), sample(1, 6, 5), sample(1, 4, 6)}, 5, []int{3, 5, 2, 4, 1}},
		{"one twice", []api.Event{sample(1, 5, 7), sample(1, 5, 7), sample(1, 4, 1)}, 2, []int{7, 7}},
		{"the ends of an int", []api.Event{sample(1, 0, 1), sample(1, math.MaxInt, 2), sample(1, -1, 3), sample(1, math.MinInt, 4), sample(1, 1, 5)}, 9, []int{2, 5, 1, 3, 4}},
		{"the greatest Seq, of one", []api.Event{sample(1, 96, 1), sample(1, math.MaxInt, 2), sample(1, math.MinInt, 3)}, 1, []int{2}},
		{"Seqs below 0, of one", []api.Event{sample(1, -9, 1), sample(1, -2, 2), sample(1, math.MinInt, 3)}, 1, []int{2}},
		{"other Kinds", slices.Concat(strange(), rise, strange()), 4, []int{8, 7, 4}},
		{"other Kinds between", slices.Concat(rise[:1], strange(), rise[1:2], strange(), rise[2:]), 2, []int{8, 7}},
		{"others'", slices.Concat(others(), rise, others()), 4, []int{8, 7, 4}}, {"others' between", slices.Concat(rise[:2], others(), rise[2:]), 2, []int{8, 7}},
		{"Values that may not be", row(1, math.MinInt, -1, top+1, math.MaxInt), 4, []int{math.MaxInt, top + 1, -1, math.MinInt}},
	} {
		if got := values(Of(x.l, 3, 1, x.size)); !slices.Equal(got, x.want) {
			t.Errorf("Of %s: %v, want %v", x.name, got, x.want)
		}
		agrees(t, x.l)
	}
}

// P10.1, P10.2: a workload and a node are any numbers, where there are samples of these.
func TestAnyWorkAndNode(t *testing.T) {
	far := []int{math.MinInt, -1, 0, 1, 7, 8, 256, 1 << 32, math.MaxInt}
	var l []api.Event
	for i, work := range far {
		for k, node := range far {
			l = append(l, of(work, node, 1, 100*i+k), of(work, node, 2, 100*i+k+1))
		}
	}
	for i, work := range far {
		for k, node := range far {
			v := 100*i + k
			if got := values(Of(l, work, node, 3)); !slices.Equal(got, []int{v + 1, v}) {
				t.Errorf("Of %d, %d: %v", work, node, got)
			}
			if n, ok := Mean(l, work, node, 3); n != v+1 || !ok {
				t.Errorf("Mean of %d, %d: %d, %v", work, node, n, ok)
			}
		}
		if load, nodes, e := Load(l, work, 1); load != 3*(100*i+1)+2+3+4 || nodes != 3 || e != api.OK {
			t.Errorf("Load of %d: %d, %d, %d", work, load, nodes, e)
		}
	}
	noMean(t, "another workload", l, 2, 0, 3)
	noMean(t, "another node", l, 0, 2, 3)
}

// P10.1: a Sample is answered whole, and as it is, where it isn't right too.
func TestOfAreWhole(t *testing.T) {
	odd := api.Event{Dot: dot(-1, 97), Time: -5, Kind: api.Sample, Work: 99, Value: -9, Policy: api.Policy{Min: 5, Max: -1, Goal: 1, Slack: 101, Up: math.MinInt, Down: math.MaxInt, Cool: -1}, Removes: []api.Dot{dot(9, 9), dot(-1, 97), dot(9, 9)}}
	bare := api.Event{Dot: dot(-1, 0), Kind: api.Sample, Work: 99}
	low := api.Event{Dot: dot(-1, -3), Time: top + 1, Kind: api.Sample, Work: 99, Value: math.MaxInt, Removes: []api.Dot{{}}}
	for _, l := range permutations([]api.Event{low, odd, bare, strange()[1]}) {
		if got := Of(l, 99, -1, 9); !sameAll(got, []api.Event{odd, bare, low}) {
			t.Errorf("Of = %v", got)
		}
	}
}

// P10.2: Mean, by cases written out; Values stand the oldest first.
func TestMean(t *testing.T) {
	for _, x := range []struct {
		name   string
		values []int
		size   int
		want   int
	}{
		{"one", []int{6}, 1, 6}, {"one of 0", []int{0}, 1, 0}, {"one below 0", []int{-6}, 1, -6}, {"one, of more", []int{6}, 16, 6},
		{"three, of one", []int{4, 7, 8}, 1, 8}, {"three, of two", []int{4, 7, 8}, 2, 8}, {"three", []int{4, 7, 8}, 3, 7}, {"three, of more", []int{4, 7, 8}, 4, 7}, {"three, of the most", []int{4, 7, 8}, math.MaxInt, 7},
		{"a sum that is divided", []int{1, 2, 3}, 3, 2}, {"one more", []int{1, 2, 4}, 3, 3}, {"two more", []int{1, 3, 4}, 3, 3}, {"three more", []int{2, 3, 4}, 3, 3}, {"one less", []int{1, 2, 2}, 3, 2},
		{"two that are divided", []int{5, 7}, 2, 6}, {"two, and one more", []int{6, 7}, 2, 7}, {"two, and one less", []int{5, 6}, 2, 6},
		{"1 among zeros", []int{0, 0, 1, 0}, 4, 1}, {"zeros", []int{0, 0, 0}, 3, 0},
		{"sums below 0 that are divided", []int{-1, -2, -3}, 3, -2}, {"one more, below 0", []int{-1, -2, -2}, 3, -1}, {"one less, below 0", []int{-1, -2, -4}, 3, -2},
		{"1 below 0 among zeros", []int{0, -1, 0}, 3, 0}, {"below 0 and above", []int{-5, 5}, 2, 0}, {"a bit above 0", []int{-5, 6}, 2, 1}, {"a bit below 0", []int{-6, 5}, 2, 0},
		{"Top", []int{top}, 1, top}, {"one more than Top", []int{top + 1}, 1, top}, {"the greatest", []int{math.MaxInt}, 1, top},
		{"-Top", []int{-top}, 1, -top}, {"one less than -Top", []int{-top - 1}, 1, -top}, {"the least", []int{math.MinInt}, 1, -top},
		{"two of Top", []int{top, top}, 2, top / 2}, {"three of Top", []int{top, top, top}, 3, top/3 + 1}, {"two of the greatest", []int{math.MaxInt, math.MaxInt}, 2, top / 2},
		{"two of -Top", []int{-top, -top}, 2, -top / 2}, {"three of -Top", []int{-top, -top, -top}, 3, -top / 3}, {"two of the least", []int{math.MinInt, math.MinInt}, 2, -top / 2},
		{"just Top together", []int{top - 1, 1}, 2, top / 2}, {"one less than Top together", []int{top - 2, 1}, 2, top / 2}, {"one more than Top together", []int{top, 1}, 2, top / 2},
		{"both ends", []int{math.MinInt, math.MaxInt}, 2, 0}, {"the greatest, one below 0", []int{-1, math.MaxInt}, 2, top / 2}, {"the greatest, two below 0", []int{-2, math.MaxInt}, 2, top/2 - 1},
		{"from the newest on: past Top, and back", []int{-top, top, top}, 3, 0}, {"from the newest on: back first", []int{top, top, -top}, 3, top/3 + 1},
		{"from the newest on: past -Top, and back", []int{top, -top, -top}, 3, 0}, {"from the newest on: up first", []int{-top, -top, top}, 3, -top / 3},
		{"the oldest one makes it pass", []int{top, 5, 6}, 2, 6},
	} {
		l := row(1, x.values...)
		for _, l := range [][]api.Event{l, reverse(l), shuffled(l, 1)} {
			isMean(t, x.name, l, 1, x.size, x.want)
			isLoad(t, x.name, l, min(x.size, 16), x.want, 1)
			agrees(t, l)
		}
	}
}

// P10.2: there is no Mean of none, of however many samples.
func TestMeanOfNone(t *testing.T) {
	for _, size := range []int{0, -1, -16, math.MinInt} {
		noMean(t, "three", row(1, 4, 7, 8), 3, 1, size)
	}
	for _, size := range sizes() {
		noMean(t, "another node's", row(1, 4, 7, 8), 3, 2, size)
		noMean(t, "another workload's", row(1, 4, 7, 8), 2, 1, size)
	}
	if n, ok := Mean(row(1, 0), 3, 1, 1); n != 0 || !ok {
		t.Errorf("Mean of 0: %d, %v", n, ok)
	}
}

// P10.2: of samples of one Seq those that stand first are taken, and first.
func TestMeanOfOneSeq(t *testing.T) {
	l := []api.Event{sample(1, 5, top), sample(1, 5, top), sample(1, 5, -top), sample(1, 4, 9)}
	isMean(t, "one Seq, of one", l, 1, 1, top)
	isMean(t, "one Seq, of three", l, 1, 3, 0)
	isMean(t, "one Seq, of three, the other way", reverse(l), 1, 3, top/3+1)
	isMean(t, "one Seq, of one, the other way", reverse(l), 1, 1, -top)
}

// P10.3: a size that isn't from 1 to MaxWindow is refused, of whatever there is; there is nothing beside the error.
func TestLoadOfSizes(t *testing.T) {
	var l []api.Event
	for i := range 20 {
		l = append(l, sample(1, i+1, i*i), sample(6, 40-i, 7))
	}
	for _, size := range []int{math.MinInt, -16, -1, 0, 17, 18, 257, 1 + 1<<32, math.MaxInt} {
		for _, l := range [][]api.Event{nil, l, strange()} {
			for _, work := range places() {
				if load, nodes, e := Load(l, work, size); load != 0 || nodes != 0 || e != api.ErrArg {
					t.Errorf("Load of size %d: %d, %d, %d", size, load, nodes, e)
				}
			}
		}
	}
	isLoad(t, "size 1", l, 1, 361+7, 2)
	isLoad(t, "size 2", l, 2, 343+7, 2)
	isLoad(t, "MaxWindow less 1", l, 15, 163+7, 2)
	isLoad(t, "MaxWindow", l, 16, 154+7, 2)
	if got := len(Of(l, 3, 1, 17)); got != 17 {
		t.Errorf("Of size 17: %d", got)
	}
	isMean(t, "size 17", l, 1, 17, 145)
	isMean(t, "size 20", l, 1, 20, 124)
}

// P10.3: Load, by cases written out.
func TestLoad(t *testing.T) {
	each := func(values ...int) []api.Event {
		var l []api.Event
		for node, v := range values {
			l = append(l, sample(node, 1, v))
		}
		return l
	}
	for _, x := range []struct {
		name       string
		l          []api.Event
		size       int
		load, many int
	}{
		{"one node", row(0, 4), 1, 4, 1}, {"the last node", row(7, 4), 1, 4, 1}, {"a node of 0", row(3, 0), 1, 0, 1},
		{"all nodes", each(1, 2, 4, 8, 16, 32, 64, 128), 1, 255, 8}, {"all nodes, of 0", each(0, 0, 0, 0, 0, 0, 0, 0), 16, 0, 8},
		{"all but the first", each(1, 2, 4, 8, 16, 32, 64, 128)[1:], 1, 254, 7}, {"all but the last", each(1, 2, 4, 8, 16, 32, 64, 128)[:7], 1, 127, 7},
		{"nodes that there are not", slices.Concat(row(-1, 50), row(8, 50), row(9, 50), row(math.MinInt, 50), row(math.MaxInt, 50), row(256, 50), row(2, 7)), 1, 7, 1},
		{"means, each rounded up", slices.Concat(row(0, 1, 2), row(1, 1, 2), row(2, 1, 2)), 2, 6, 3},
		{"means of unlike many", slices.Concat(row(0, 10), row(1, 1, 2, 3), row(2, 5, 9)), 3, 19, 3}, {"the same, of two", slices.Concat(row(0, 10), row(1, 1, 2, 3), row(2, 5, 9)), 2, 20, 3},
		{"a node's mean below 0", slices.Concat(row(0, 10), row(1, -3, -4)), 2, 7, 2}, {"all below 0", slices.Concat(row(0, -10), row(1, -3, -4)), 2, -13, 2}, {"both ways", each(5, -5), 1, 0, 2},
		{"just Top", each(top-1, 1), 1, top, 2}, {"one less than Top", each(top-2, 1), 1, top - 1, 2}, {"one more than Top", each(top, 1), 1, top, 2}, {"Tops", each(top, top, top, top, top, top, top, top), 1, top, 8},
		{"the greatest", each(math.MaxInt, math.MaxInt), 1, top, 2}, {"the least", each(math.MinInt, math.MinInt, math.MinInt), 1, -top, 3}, {"both ends", each(math.MinInt, math.MaxInt), 1, 0, 2},
		{"from the node 0 on: past Top, and back", each(top, top, -top), 1, 0, 3}, {"from the node 0 on: back first", each(-top, top, top), 1, top, 3},
		{"from the node 0 on: past -Top, and back", each(-top, -top, top), 1, 0, 3}, {"from the node 0 on: up first", each(top, -top, -top), 1, -top, 3},
		{"past Top behind a node that has none", slices.Concat(row(1, top), row(4, top), row(7, -1)), 1, top - 1, 3},
		{"means that don't pass, sums that do", slices.Concat(row(0, top, top), row(1, top, top)), 2, top, 2}, {"means that don't pass, of three", slices.Concat(row(0, top, top, top), row(1, 1)), 3, top/3 + 2, 2},
	} {
		for _, l := range [][]api.Event{x.l, reverse(x.l), shuffled(x.l, 1)} {
			isLoad(t, x.name, l, x.size, x.load, x.many)
			isLoad(t, x.name+", and other Kinds", slices.Concat(strange(), l, strange()), x.size, x.load, x.many)
			agrees(t, l)
		}
	}
}

// P10.3: of each of all choices of nodes Load counts those that have a sample.
func TestLoadOfSomeNodes(t *testing.T) {
	for choice := range 256 {
		var l []api.Event
		load, many := 0, 0
		for node := range 8 {
			if choice>>node&1 == 1 {
				l = append(l, row(node, 999, 1<<node, 3<<node)...)
				load, many = load+(2<<node), many+1
			}
		}
		isLoad(t, "some", l, 2, load, many)
		isLoad(t, "some, the other way", reverse(l), 2, load, many)
	}
}

// few are some events of which many lists are made: samples of one Seq and of others, others', and other Kinds.
func few() []api.Event {
	set := of(3, 1, 4, 9)
	set.Kind = api.Set
	odd := of(3, 1, -1, -2)
	odd.Removes = []api.Dot{dot(1, 1)}
	return []api.Event{sample(1, 2, 5), at(9, sample(1, 2, 8)), sample(1, 3, top), at(9, sample(1, 1, -top)), odd, sample(0, 2, 7), sample(8, 9, 3), of(0, 1, 9, 4), set}
}

// P10.1, P10.2, P10.3: of each list of up to four of a few events, all that is answered is what the document says.
func TestAsTold(t *testing.T) {
	var grow func(l []api.Event)
	grow = func(l []api.Event) {
		for _, work := range []int{0, 3} {
			for _, size := range []int{-1, 0, 1, 2, 3, 4, 16, 17} {
				agreesAt(t, l, work, size)
			}
		}
		if len(l) == 4 {
			return
		}
		for _, e := range few() {
			grow(append(slices.Clip(l), e))
		}
	}
	grow(nil)
}

// byChance is an event of so many Seqs at most, some of them not right.
func byChance(chance *rand.Rand, width int) api.Event {
	e := at(chance.Intn(9), of(chance.Intn(5)-1, chance.Intn(10)-1, chance.Intn(width)-width/3, chance.Intn(1000)-200))
	if chance.Intn(6) == 0 {
		e.Kind = chance.Intn(5)
	}
	if chance.Intn(6) == 0 {
		e.Value = (chance.Intn(5) - 2) * top
	}
	for range chance.Intn(3) {
		e.Removes = append(e.Removes, dot(chance.Intn(8), chance.Intn(97)))
	}
	return e
}

// P10.1, P10.2, P10.3: the same of many events by chance; in long lists of few Seqs those of one Seq stay in their order.
func TestManyAsTold(t *testing.T) {
	chance := rand.New(rand.NewSource(10))
	for _, width := range []int{1, 2, 3, 5, 40, 1000} {
		for _, n := range []int{1, 5, 12, 13, 20, 21, 41, 100, 300} {
			var l []api.Event
			for range n {
				l = append(l, byChance(chance, width))
			}
			agrees(t, l)
			for i := range l {
				l[i].Kind, l[i].Work, l[i].Dot.Node = api.Sample, 3, 1
			}
			for _, size := range sizes() {
				agreesAt(t, l, 3, size)
			}
		}
	}
}

// answers are all that is answered of the workload 3 and a size.
type answers struct {
	of          [10][]api.Event
	means       [10]int
	ok          [10]bool
	load, nodes int
	e           api.Errno
}

func answered(l []api.Event, size int) answers {
	var a answers
	for i := range a.of {
		a.of[i] = Of(l, 3, i-1, size)
		a.means[i], a.ok[i] = Mean(l, 3, i-1, size)
	}
	a.load, a.nodes, a.e = Load(l, 3, size)
	return a
}

// equal says whether two are the same.
func (a answers) equal(b answers) bool {
	for i := range a.of {
		if !sameAll(a.of[i], b.of[i]) {
			return false
		}
	}
	return a.means == b.means && a.ok == b.ok && a.load == b.load && a.nodes == b.nodes && a.e == b.e
}

// P10.4: where events stand says nothing, if their dots are unlike.
func TestInAnyOrder(t *testing.T) {
	l := []api.Event{sample(1, 1, -top), sample(1, 2, top), sample(1, 3, top), sample(0, 9, 5), sample(7, 1, top), of(2, 1, 4, 9), {Dot: dot(1, 5), Kind: api.Set, Work: 3, Value: 9}}
	for size := 1; size <= 4; size++ {
		want := answered(l, size)
		for _, p := range permutations(l) {
			if !answered(p, size).equal(want) {
				t.Fatalf("of %v, size %d: %v, want %v", p, size, answered(p, size), want)
			}
		}
	}
}

// P10.4: the same of all the dots that there are; then older samples, samples of other workloads and other Kinds are put in and left out.
func TestAllInAnyOrder(t *testing.T) {
	var l, alien []api.Event
	for i := range 768 {
		e := of(2+i/96%2+i%2, i/96, 1+i%96, (i*i*31)%977-100)
		if i%5 == 0 {
			e.Kind = 2 + i%2
		}
		l = append(l, e)
		if e.Work != 3 || e.Kind != api.Sample {
			alien = append(alien, e)
		}
	}
	for size := 1; size <= 16; size++ {
		want := answered(l, size)
		if !want.equal(answered(reverse(l), size)) || !want.equal(answered(shuffled(l, int64(size)), size)) {
			t.Fatalf("another order says something at size %d", size)
		}
		var newest, mine []api.Event
		for node := range 8 {
			newest = append(newest, toldOf(l, 3, node, size)...)
			mine = append(mine, toldOf(l, 3, node, 99)...)
		}
		if len(newest) != 8*size || len(mine) <= len(newest) {
			t.Fatalf("%d of %d at size %d", len(newest), len(mine), size)
		}
		for _, x := range [][]api.Event{newest, reverse(newest), shuffled(newest, 1), mine, shuffled(mine, 1), slices.Concat(alien, newest, strange()), slices.Concat(mine, alien)} {
			if !want.equal(answered(x, size)) {
				t.Fatalf("older samples, or others', say something at size %d", size)
			}
		}
	}
}

// P10.4: one sample put in at any place counts where it is of the newest, and nowhere else.
func TestPutIn(t *testing.T) {
	l := []api.Event{sample(1, 10, 5), sample(1, 20, 6), sample(1, 30, 9), sample(2, 3, 4)}
	want := answered(l, 2)
	older := []api.Event{sample(1, 19, 99), sample(1, 9, top), sample(1, 1, -5), sample(1, -1, 99), sample(1, math.MinInt, math.MaxInt), of(4, 1, 99, 99), of(2, 1, 25, 99), of(-1, 1, 31, 99), of(8, 0, 1, 99), {Dot: dot(1, 99), Kind: api.Set, Work: 3, Value: 99}, {Dot: dot(0, 1), Kind: api.Del, Work: 3}}
	for place := range len(l) + 1 {
		for _, e := range older {
			if got := answered(slices.Insert(slices.Clone(l), place, e), 2); !got.equal(want) {
				t.Errorf("with %v at %d: %v, want %v", e, place, got, want)
			}
		}
		isLoad(t, "a newer one", slices.Insert(slices.Clone(l), place, sample(1, 31, 12)), 2, 11+4, 2)
		isLoad(t, "one between", slices.Insert(slices.Clone(l), place, sample(1, 21, 12)), 2, 11+4, 2)
		isLoad(t, "a node's first", slices.Insert(slices.Clone(l), place, sample(0, 1, 1)), 2, 8+4+1, 3)
	}
}

// scribble writes over a list and its spare room; scribbleAll writes over events, and over their Removes.
func scribble[T any](l []T, with T) {
	l = l[:cap(l)]
	for i := range l {
		l[i] = with
	}
}
func scribbleAll(l []api.Event) {
	for _, e := range l[:cap(l)] {
		scribble(e.Removes, dot(-9, -9))
	}
	scribble(l, api.Event{Dot: dot(-9, -9), Time: math.MaxInt, Kind: api.Sample, Work: 3, Value: 3, Removes: []api.Dot{dot(-9, -9)}})
}

// own are events with Removes in memory of their own.
func own(l []api.Event) []api.Event {
	l = slices.Clone(l)
	for i := range l {
		l[i].Removes = slices.Clone(l[i].Removes)
	}
	return l
}

// removing are samples that have Removes, though none may, two of them in one memory, one with spare room, one with room alone.
func removing() []api.Event {
	shared := []api.Dot{dot(0, 1), dot(0, 2), dot(0, 3), dot(0, 4)}
	l := []api.Event{sample(1, 2, 20), sample(1, 3, 30), sample(1, 1, 10), of(4, 1, 9, 90), sample(1, 5, 50), sample(1, 4, 40), sample(2, 1, 60), sample(1, 6, 70)}
	for i, removes := range [][]api.Dot{shared, shared, shared[:2], shared[1:], make([]api.Dot, 0, 4), nil, shared, {dot(7, 7)}} {
		l[i].Removes = removes
	}
	return l
}

// Rule 4: what is handed in is not changed, its spare room neither; what an answer hands out, changed afterwards, changes nothing of it.
func TestTouchesNothing(t *testing.T) {
	for n := range len(removing()) + 1 {
		l := removing()
		before := own(l)
		for _, size := range sizes() {
			for _, node := range places() {
				scribbleAll(Of(l[:n], 3, node, size))
				Mean(l[:n], 3, node, size)
			}
			Load(l[:n], 3, size)
			if !sameAll(l, before) {
				t.Fatalf("of %v: %v is left", before, l)
			}
		}
	}
}

// Rule 4: what was handed in, changed afterwards: what was answered stays as it was.
func TestKeepsNothing(t *testing.T) {
	for _, size := range sizes() {
		l := removing()
		want := toldOf(own(l), 3, 1, size)
		got := Of(l, 3, 1, size)
		scribbleAll(l)
		if !sameAll(got, want) {
			t.Errorf("%v, want %v", got, want)
		}
	}
}

// Rule 4: no two lists of an answer share memory, spare room included, where those that were handed in do.
func TestListsApart(t *testing.T) {
	want := toldOf(own(removing()), 3, 1, 9)
	got := Of(removing(), 3, 1, 9)
	for i := range got {
		scribble(got[i].Removes, dot(-9, -9))
		if !sameAll(got[i+1:], want[i+1:]) {
			t.Fatalf("what stands behind %d shares memory with it", i)
		}
	}
	got = Of(removing(), 3, 1, 9)
	for i := len(got) - 1; i >= 0; i-- {
		scribble(got[i].Removes, dot(-9, -9))
		if !sameAll(got[:i], want[:i]) {
			t.Fatalf("what stands ahead of %d shares memory with it", i)
		}
	}
}

// Rule 4: an answer's spare room has nothing of what was left out.
func TestSpareRoom(t *testing.T) {
	l := removing()
	for size := range 9 {
		got := Of(l, 3, 1, size)
		for _, e := range got[len(got):cap(got)] {
			if !same(e, api.Event{}) {
				t.Errorf("size %d: %v stands behind the answer", size, e)
			}
		}
	}
}

// Rule 5: what is answered hangs on no call ahead, and no answer is changed by a call behind it.
func TestSameAgain(t *testing.T) {
	l := removing()
	got := Of(l, 3, 1, 4)
	for range 3 {
		scribbleAll(Of(l, 3, 1, 4))
		agrees(t, l)
		agrees(t, few())
		TestExample(t)
	}
	if !sameAll(got, toldOf(l, 3, 1, 4)) {
		t.Errorf("%v", got)
	}
}

// P1: very many events end soon in each call, in whatever order; what hands out no Removes copies none, however long they are.
func TestVeryMany(t *testing.T) {
	var l []api.Event
	for i := range 200000 {
		l = append(l, sample(i%8, i/8, i%1000))
	}
	for _, l := range [][]api.Event{l, reverse(l), shuffled(l, 1)} {
		got := Of(l, 3, 1, math.MaxInt)
		for i := 1; i < len(got); i++ {
			if got[i].Dot.Seq >= got[i-1].Dot.Seq {
				t.Fatalf("%v stands behind %v", got[i], got[i-1])
			}
		}
		if len(got) != 25000 || got[0].Dot.Seq != 24999 {
			t.Fatalf("%d, from %v on", len(got), got[0])
		}
		isMean(t, "all", l, 1, math.MaxInt, 497)
		isLoad(t, "the newest", l, 1, 8*992+28, 8)
	}
	one := slices.Repeat([]api.Event{sample(1, 7, 6)}, 200000)
	one[0].Value = 5
	isMean(t, "one Seq", one, 1, 1, 5)
	isLoad(t, "one Seq", one, 16, 6, 1)
	long := slices.Repeat([]api.Dot{dot(0, 1)}, 1<<16)
	for i := range l[:20000] {
		l[i].Removes = long
	}
	isMean(t, "long Removes", l[:20000], 1, math.MaxInt, 497)
	isLoad(t, "long Removes", l[:20000], 16, 8*932+28, 8)
	if got := Of(l[:20000], 3, 1, 3); len(got) != 3 || len(got[2].Removes) != 1<<16 {
		t.Errorf("%d samples", len(got))
	}
}
