package store

import (
	"fmt"
	"math"
	"math/rand"
	"slices"
	"strings"
	"testing"

	"murmur/api"
	"murmur/disk"
)

const top = api.Top

// dot is one, of two numbers.
func dot(node, seq int) api.Dot { return api.Dot{Node: node, Seq: seq} }

// dots are some, of two numbers each.
func dots(numbers ...int) []api.Dot {
	var l []api.Dot
	for i := 0; i < len(numbers); i += 2 {
		l = append(l, dot(numbers[i], numbers[i+1]))
	}
	return l
}

// sample, set and del are right events.
func sample(node, seq int) api.Event {
	return api.Event{Dot: dot(node, seq), Time: 3, Kind: api.Sample, Work: 4, Value: 5}
}
func set(node, seq int, removes ...api.Dot) api.Event {
	return api.Event{Dot: dot(node, seq), Time: 300, Kind: api.Set, Work: 7, Policy: api.Policy{Min: 1, Max: 500, Goal: 10, Slack: 20, Up: 2, Down: 3, Cool: 4}, Removes: removes}
}
func del(node, seq int, removes ...api.Dot) api.Event {
	return api.Event{Dot: dot(node, seq), Time: 1, Kind: api.Del, Work: 0, Removes: removes}
}

// changed is an event with something done to it, its Removes in memory of their own.
func changed(e api.Event, do func(e *api.Event)) api.Event {
	e.Removes = slices.Clone(e.Removes)
	do(&e)
	return e
}

// same says whether two events are the same, Removes of nil and none too; sameAll says it of lists.
func same(a, b api.Event) bool {
	return a.Dot == b.Dot && a.Time == b.Time && a.Kind == b.Kind && a.Work == b.Work && a.Value == b.Value && a.Policy == b.Policy && slices.Equal(a.Removes, b.Removes)
}
func sameAll(a, b []api.Event) bool { return slices.EqualFunc(a, b, same) }

// wrongs are events that aren't right, each for one reason.
func wrongs() []api.Event {
	var l []api.Event
	for _, e := range []api.Event{sample(1, 2), set(1, 2, dots(0, 1, 7, 96)...), del(1, 2, dots(0, 1, 7, 96)...)} {
		for _, do := range []func(e *api.Event){
			func(e *api.Event) { *e = api.Event{} },
			func(e *api.Event) { e.Dot = dot(-1, 1) },
			func(e *api.Event) { e.Dot = dot(8, 1) },
			func(e *api.Event) { e.Dot = dot(0, 0) },
			func(e *api.Event) { e.Dot = dot(0, 97) },
			func(e *api.Event) { e.Time = 0 },
			func(e *api.Event) { e.Time = top + 1 },
			func(e *api.Event) { e.Kind = 0 },
			func(e *api.Event) { e.Kind = 4 },
			func(e *api.Event) { e.Work = -1 },
			func(e *api.Event) { e.Work = 8 },
			func(e *api.Event) { e.Value = -1 },
			func(e *api.Event) { e.Value = math.MaxInt },
			func(e *api.Event) { e.Policy.Min = -1 },
			func(e *api.Event) { e.Policy.Max = 1001 },
			func(e *api.Event) { e.Removes = dots(1, 2) },
			func(e *api.Event) { e.Removes = dots(0, 2, 0, 1) },
			func(e *api.Event) { e.Removes = dots(0, 1, 0, 1) },
			func(e *api.Event) { e.Removes = dots(0, 97) },
		} {
			l = append(l, changed(e, do))
		}
	}
	return l
}

// actual is a disk, and the store that was opened over it last.
type actual struct {
	d *disk.Disk
	s *Store
}

// step is one, of an actual one and of a told one alike.
type step struct {
	name   string
	actual func(r *actual) (int, api.Errno)
	told   func(m *told) (int, api.Errno)
}

// steps of this layer. Where Open is refused the store that there was goes on.
func open() step {
	do := func(r *actual) (int, api.Errno) {
		s, e := Open(r.d)
		if e == api.OK {
			r.s = s
		} else if s != nil {
			panic("a store beside an error")
		}
		return 0, e
	}
	return step{"open", do, func(m *told) (int, api.Errno) { return 0, m.open() }}
}
func next() step {
	return step{"next", func(r *actual) (int, api.Errno) { return r.s.Next() }, (*told).next}
}
func bump() step {
	return step{"bump", func(r *actual) (int, api.Errno) { return r.s.Bump() }, (*told).bump}
}
func keep(e api.Event) step {
	return step{fmt.Sprint("keep ", e), func(r *actual) (int, api.Errno) { return 0, r.s.Keep(e) }, func(m *told) (int, api.Errno) { return 0, m.keep(e) }}
}
func compact(l ...api.Event) step {
	return step{fmt.Sprint("compact ", l), func(r *actual) (int, api.Errno) { return 0, r.s.Compact(l) }, func(m *told) (int, api.Errno) { return 0, m.compact(l) }}
}

// steps of the disk below: bytes that are appended, that are swapped in, and a crash; all that waits is synced by a crash that keeps all.
func add(text string) step {
	return step{fmt.Sprintf("append %q", text), func(r *actual) (int, api.Errno) { return 0, r.d.Append([]byte(text)) }, func(m *told) (int, api.Errno) { return 0, m.disk.append(text) }}
}
func swap(text string) step {
	return step{fmt.Sprintf("swap %q", text), func(r *actual) (int, api.Errno) { return 0, r.d.Swap([]byte(text)) }, func(m *told) (int, api.Errno) { return 0, m.disk.swap(text) }}
}
func crash(keep int) step {
	do := func(r *actual) (int, api.Errno) {
		r.d.Crash(keep)
		return 0, api.OK
	}
	tell := func(m *told) (int, api.Errno) {
		m.disk.crash(keep)
		return 0, api.OK
	}
	return step{fmt.Sprint("crash ", keep), do, tell}
}
func sync() step { return crash(math.MaxInt) }

// on are steps that put these records on a disk, synced.
func on(bodies ...string) []step { return []step{add(framesText(bodies...)), sync()} }

// times is a step taken so many times.
func times(n int, s step) []step { return slices.Repeat([]step{s}, n) }

// names are those of steps.
func names(l []step) string {
	var out []string
	for _, s := range l {
		out = append(out, s.name[:min(len(s.name), 60)])
	}
	return strings.Join(out, ", ")
}

// join is lists of steps, one behind the other.
func join(l ...[]step) []step { return slices.Concat(l...) }

// actualBy is an empty disk of so many bytes, and what took steps over it; toldBy is a told one.
func actualBy(t *testing.T, size int, l ...step) *actual {
	t.Helper()
	d, e := disk.New(size)
	if e != api.OK {
		t.Fatalf("disk.New(%d) = %d", size, e)
	}
	r := &actual{d: d}
	for _, s := range l {
		s.actual(r)
	}
	return r
}
func toldBy(size int, l ...step) *told {
	m := &told{disk: &toldDisk{size: size}}
	for _, s := range l {
		s.told(m)
	}
	return m
}

// holds says what of a store, and of the disk below, isn't so; twice, since asking changes nothing.
func holds(r *actual, m *told) string {
	for range 2 {
		if r.s.Upto() != m.upto || r.s.Inc() != m.inc {
			return fmt.Sprintf("Upto, Inc = %d, %d, want %d, %d", r.s.Upto(), r.s.Inc(), m.upto, m.inc)
		}
		if got := r.s.Events(); !sameAll(got, m.events) {
			return fmt.Sprintf("Events = %v, want %v", got, m.events)
		}
		if string(r.d.Read()) != m.disk.read() || r.d.Waiting() != len(m.disk.waits) || r.d.Room() != m.disk.size-len(m.disk.read()) {
			return fmt.Sprintf("there is %.200q, and %d wait, want %.200q, %d", r.d.Read(), r.d.Waiting(), m.disk.read(), len(m.disk.waits))
		}
	}
	return ""
}

// follows has a store take steps, and asks behind each for what the document says.
func follows(t *testing.T, size int, l []step) {
	t.Helper()
	r, m := actualBy(t, size), toldBy(size)
	for i, s := range l {
		got, e := s.actual(r)
		want, wantE := s.told(m)
		if got != want || e != wantE {
			t.Fatalf("%s: %d, %d, want %d, %d", names(l[:i+1]), got, e, want, wantE)
		}
		if wrong := holds(r, m); wrong != "" {
			t.Fatalf("%s: %s", names(l[:i+1]), wrong)
		}
	}
}

// goes has steps be answered by OK, each of them, and follows them.
func goes(t *testing.T, size int, l []step) {
	t.Helper()
	r := actualBy(t, size)
	for i, s := range l {
		if n, e := s.actual(r); e != api.OK {
			t.Fatalf("%s: %d, %d", names(l[:i+1]), n, e)
		}
	}
	follows(t, size, l)
}

// tells has a store behind steps tell these by one more.
func tells(t *testing.T, size int, head []step, s step, want int) {
	t.Helper()
	if got, e := s.actual(actualBy(t, size, head...)); got != want || e != api.OK {
		t.Fatalf("%s, %s: %d, %d, want %d", names(head), s.name, got, e, want)
	}
	follows(t, size, append(slices.Clip(head), s))
}

// refused: behind steps one more is answered by that error, and changes nothing: not the store, nor what it does next, nor the disk, nor what each crash would leave of that.
func refused(t *testing.T, size int, head []step, s step, want api.Errno) {
	t.Helper()
	if n, e := s.actual(actualBy(t, size, head...)); n != 0 || e != want {
		t.Fatalf("%s, %s: %d, %d, want 0, %d", names(head), s.name, n, e, want)
	}
	m, both := toldBy(size, head...), append(slices.Clip(head), s)
	if wrong := holds(actualBy(t, size, both...), m); wrong != "" {
		t.Fatalf("%s, %s: %s", names(head), s.name, wrong)
	}
	for keep := -1; keep < len(m.disk.waits)+2; keep++ {
		d := actualBy(t, size, both...).d
		d.Crash(keep)
		if got, want := string(d.Read()), m.disk.after(keep); got != want {
			t.Fatalf("%s, %s: %d units of it: %.200q, want %.200q", names(head), s.name, keep, got, want)
		}
	}
	plain, also := actualBy(t, size, head...), actualBy(t, size, both...)
	for _, s := range []step{bump(), next(), next(), next(), next(), next(), next(), next(), next(), next(), bump()} {
		n, e := s.actual(plain)
		if got, gotE := s.actual(also); got != n || gotE != e {
			t.Fatalf("%s, then %s: %d, %d, want %d, %d", names(both), s.name, got, gotE, n, e)
		}
	}
}

// knows asks for what a store knows.
func knows(t *testing.T, s *Store, upto, inc int, l ...api.Event) {
	t.Helper()
	if s.Upto() != upto || s.Inc() != inc || !sameAll(s.Events(), l) {
		t.Fatalf("Upto %d, Inc %d, Events %v, want %d, %d, %v", s.Upto(), s.Inc(), s.Events(), upto, inc, l)
	}
}

// opened is a store over a disk with just these records, and a tail that is none.
func opened(t *testing.T, tail string, bodies ...string) (*actual, api.Errno) {
	t.Helper()
	text := framesText(bodies...) + tail
	r := actualBy(t, max(1, len(text)), add(text), sync())
	_, e := open().actual(r)
	return r, e
}

// The document's examples.
func TestExamples(t *testing.T) {
	r := actualBy(t, 100, open())
	for want := 1; want <= 2; want++ {
		if n, e := r.s.Next(); n != want || e != api.OK {
			t.Errorf("Next = %d, %d, want %d", n, e, want)
		}
	}
	knows(t, r.s, 8, 0)
	s, _ := Open(r.d)
	if n, e := s.Next(); n != 9 || e != api.OK {
		t.Errorf("Next = %d, %d", n, e)
	}
	if n, e := s.Bump(); n != 1 || e != api.OK {
		t.Errorf("Bump = %d, %d", n, e)
	}
	s, _ = Open(r.d)
	if n, e := s.Bump(); n != 2 || e != api.OK {
		t.Errorf("Bump = %d, %d", n, e)
	}
}

// The chapter's list: of a nil Store each answer is zero, and ErrNil, whatever else is wrong.
func TestNilStore(t *testing.T) {
	var s *Store
	for range 2 {
		knows(t, s, 0, 0)
		if n, e := s.Next(); n != 0 || e != api.ErrNil {
			t.Errorf("Next = %d, %d", n, e)
		}
		if n, e := s.Bump(); n != 0 || e != api.ErrNil {
			t.Errorf("Bump = %d, %d", n, e)
		}
		for _, e := range append(wrongs(), sample(1, 1), set(1, 1), del(1, 1)) {
			if got := s.Keep(e); got != api.ErrNil {
				t.Errorf("Keep of %v = %d", e, got)
			}
			for _, l := range [][]api.Event{{e}, {e, e}, {sample(1, 1), e}} {
				if got := s.Compact(l); got != api.ErrNil {
					t.Errorf("Compact of %v = %d", l, got)
				}
			}
		}
		if s.Compact(nil) != api.ErrNil || s.Compact([]api.Event{}) != api.ErrNil {
			t.Error("Compact")
		}
	}
}

// P15.1: Open of a nil disk is layer 14's error.
func TestNilDisk(t *testing.T) {
	for range 2 {
		if s, e := Open(nil); s != nil || e != api.ErrNil {
			t.Errorf("Open = %v, %d", s, e)
		}
	}
}

// P1: a disk that layer 13's New didn't make has nothing on it, and no room; a Store that Open didn't make has no disk.
func TestNotMade(t *testing.T) {
	d := &disk.Disk{}
	s, e := Open(d)
	if e != api.OK || s == nil {
		t.Fatalf("Open = %d", e)
	}
	for _, x := range []struct {
		s    *Store
		want api.Errno
	}{{s, api.ErrFull}, {&Store{}, api.ErrNil}} {
		for range 2 {
			if n, e := x.s.Next(); n != 0 || e != x.want {
				t.Errorf("Next = %d, %d", n, e)
			}
			if n, e := x.s.Bump(); n != 0 || e != x.want {
				t.Errorf("Bump = %d, %d", n, e)
			}
			if e := x.s.Keep(sample(1, 1)); e != x.want {
				t.Errorf("Keep = %d", e)
			}
			if e := x.s.Compact(nil); e != x.want {
				t.Errorf("Compact = %d", e)
			}
			if x.s.Keep(api.Event{}) != api.ErrArg || x.s.Compact([]api.Event{{}}) != api.ErrArg {
				t.Error("an event that isn't right")
			}
			knows(t, x.s, 0, 0)
		}
	}
	if len(d.Read())+d.Waiting() != 0 {
		t.Error("the disk")
	}
}

// P15.1: over a disk with nothing on it a store knows nothing, and leaves the disk so.
func TestOpenNothing(t *testing.T) {
	for _, size := range []int{1, 7, 100, api.MaxDisk} {
		r := actualBy(t, size, open())
		knows(t, r.s, 0, 0)
		if r.d.Room() != size || r.d.Waiting() != 0 {
			t.Errorf("Room = %d, %d wait", r.d.Room(), r.d.Waiting())
		}
		follows(t, size, []step{open(), open(), next(), open(), next()})
	}
}

// P15.1: records written out, so that no reckoning of this test stands between.
func TestWrittenOut(t *testing.T) {
	r := actualBy(t, 100, open(), next(), bump(), keep(api.Event{Dot: dot(1, 2), Time: 3, Kind: api.Sample, Work: 4, Value: 5}))
	want := []string{"\x01\x08", "\x02\x01", "\x03\x01\x02\x03\x01\x04\x05"}
	if got := string(r.d.Read()); got != framesText(want...) {
		t.Fatalf("there is %q", got)
	}
	if e := r.s.Compact([]api.Event{{Dot: dot(7, 96), Time: 300, Kind: api.Del, Removes: dots(0, 1)}}); e != api.OK {
		t.Fatalf("Compact = %d", e)
	}
	want = []string{"\x01\x08", "\x02\x01", "\x03\x07\x60\xac\x02\x03\x00\x01\x00\x01"}
	if got := string(r.d.Read()); got != framesText(want...) {
		t.Fatalf("there is %q", got)
	}
	if r.d.Waiting() != 0 {
		t.Error("it waits")
	}
}

// known is what one record has a store know.
type known struct {
	name, body string
	upto, inc  int
	events     []api.Event
}

// mayBe are records that may be, at their edges.
func mayBe() []known {
	one := func(e api.Event) []api.Event { return []api.Event{e} }
	l := []known{
		{"nothing is reserved", "\x01\x00", 0, 0, nil},
		{"one number is", "\x01\x01", 1, 0, nil},
		{"a block is", "\x01\x08", 8, 0, nil},
		{"less than a block is", "\x01\x05", 5, 0, nil},
		{"one number less than all are", "\x01\x5f", 95, 0, nil},
		{"all are", "\x01\x60", 96, 0, nil},
		{"the incarnation 0", "\x02\x00", 0, 0, nil},
		{"the incarnation 1", "\x02\x01", 0, 1, nil},
		{"an incarnation of one byte", "\x02\x7f", 0, 127, nil},
		{"an incarnation of two bytes", "\x02\x80\x01", 0, 128, nil},
		{"an incarnation above MaxSeq", "\x02\x61", 0, 97, nil},
		{"the incarnation Top less one", "\x02\xff\xff\xff\xff\xff\x1f", 0, top - 1, nil},
		{"the incarnation Top", "\x02\x80\x80\x80\x80\x80\x20", 0, top, nil},
		{"a Sample", "\x03\x01\x02\x03\x01\x04\x05", 0, 0, one(sample(1, 2))},
		{"a Sample of nothing", "\x03\x00\x01\x01\x01\x00\x00", 0, 0, one(api.Event{Dot: dot(0, 1), Time: 1, Kind: 1})},
		{"a Del", "\x03\x01\x02\x01\x03\x00\x00", 0, 0, one(del(1, 2))},
	}
	for _, e := range []api.Event{sample(7, 96), set(0, 1), set(3, 4, dots(0, 1, 3, 3, 3, 5, 7, 96)...), del(0, 1), del(0, 1, dots(0, 2)...), full()} {
		l = append(l, known{fmt.Sprint("the event ", e.Dot), keptText(e), 0, 0, one(e)})
	}
	return l
}

// full is an event with as many Removes as may be, and great numbers.
func full() api.Event {
	e := api.Event{Dot: dot(7, 96), Time: top, Kind: api.Set, Work: 7, Policy: api.Policy{Min: 1000, Max: 1000, Goal: 1 << 30, Slack: 100, Up: 1000, Down: 1000, Cool: 1000}}
	for seq := 1; seq <= 96; seq++ {
		e.Removes = append(e.Removes, dot(6, seq))
	}
	return e
}

// mayNotBe are records that may not be, each for one reason.
func mayNotBe() map[string]string {
	l := map[string]string{
		"no byte":                         "",
		"a kind of 0":                     "\x00",
		"a kind of 0 and a number":        "\x00\x01",
		"a kind of 4":                     "\x04",
		"a kind of 4 and a number":        "\x04\x01",
		"a kind of 4 and an event":        "\x04" + eventText(sample(1, 2)),
		"a kind of 127":                   "\x7f\x01",
		"a kind of 128 and more":          "\x81\x01",
		"a kind of 255":                   "\xff",
		"reserved, alone":                 "\x01",
		"reserved, cut off":               "\x01\x80",
		"reserved, cut off later":         "\x01\xff\xff\xff\xff\xff",
		"reserved, not the shortest":      "\x01\x88\x00",
		"reserved, 0 not the shortest":    "\x01\x80\x00",
		"reserved, one more than may be":  "\x01\x61",
		"reserved, 128":                   "\x01\x80\x01",
		"reserved, Top":                   "\x01" + numberText(top),
		"reserved, above Top":             "\x01\x81\x80\x80\x80\x80\x20",
		"reserved, six bytes, none last":  "\x01\xff\xff\xff\xff\xff\xff",
		"reserved, as if it were below 0": "\x01\xff\xff\xff\xff\xff\xff\xff\xff\xff\x01",
		"reserved, bytes behind":          "\x01\x08\x00",
		"reserved, another behind":        "\x01\x08\x08",
		"reserved, all, and bytes behind": "\x01\x60\x01",
		"reserved, an event":              "\x01" + eventText(sample(1, 2)),
		"an incarnation, alone":           "\x02",
		"an incarnation, cut off":         "\x02\x80",
		"an incarnation, not shortest":    "\x02\x81\x00",
		"an incarnation, Top and one":     "\x02\x81\x80\x80\x80\x80\x20",
		"an incarnation, twice Top":       "\x02\x80\x80\x80\x80\x80\x40",
		"an incarnation, seven bytes":     "\x02\x80\x80\x80\x80\x80\x80\x01",
		"an incarnation, below 0":         "\x02\xff\xff\xff\xff\xff\xff\xff\xff\xff\x01",
		"an incarnation, bytes behind":    "\x02\x05\x05",
		"an incarnation 0, bytes behind":  "\x02\x00\x00",
		"an event, alone":                 "\x03",
		"an event, bytes behind":          keptText(sample(1, 2)) + "\x00",
		"an event, another behind":        keptText(sample(1, 2)) + eventText(sample(1, 3)),
		"an event, and its record":        "\x03" + keptText(sample(1, 2)),
		"an event of Kind 0":              "\x03\x01\x02\x03\x00\x04\x05",
		"an event of Kind 4":              "\x03\x01\x02\x03\x04\x04\x05",
		"an event of a node 8":            "\x03\x08\x02\x03\x01\x04\x05",
		"an event of the number 0":        "\x03\x01\x00\x03\x01\x04\x05",
		"an event of the number 97":       "\x03\x01\x61\x03\x01\x04\x05",
		"an event at the time 0":          "\x03\x01\x02\x00\x01\x04\x05",
		"an event of a workload 8":        "\x03\x01\x02\x03\x01\x08\x05",
		"an event that is long in a byte": "\x03\x01\x82\x00\x03\x01\x04\x05",
		"an event that removes itself":    keptText(del(1, 2, dots(1, 2)...)),
		"an event that removes 97":        "\x03\x01\x02\x03\x03\x04\x61",
		"an event that removes no order":  keptText(del(1, 2, dots(0, 2, 0, 1)...)),
		"an event that removes one twice": keptText(del(1, 2, dots(0, 1, 0, 1)...)),
		"a policy that isn't right":       keptText(changed(set(1, 2), func(e *api.Event) { e.Policy.Goal = 0 })),
	}
	for _, e := range []api.Event{sample(1, 2), set(1, 2), del(1, 2, dots(0, 1)...)} {
		for n := range eventText(e) {
			l[fmt.Sprintf("%d bytes of an event of Kind %d", n, e.Kind)] = keptText(e)[:1+n]
		}
	}
	return l
}

// P15.1: each record that may be, alone, behind others, ahead of them, twice, and ahead of what is torn.
func TestRecordsThatMayBe(t *testing.T) {
	for _, x := range mayBe() {
		t.Run(x.name, func(t *testing.T) {
			for _, tail := range []string{"", "torn", framedText(x.body)[1:], framedText("")[:5]} {
				for _, bodies := range [][]string{{x.body}, {x.body, x.body}} {
					r, e := opened(t, tail, bodies...)
					if e != api.OK {
						t.Fatalf("Open = %d", e)
					}
					knows(t, r.s, x.upto, x.inc, x.events...)
					if string(r.d.Read()) != framesText(bodies...) || r.d.Waiting() != 0 {
						t.Errorf("there is %q", r.d.Read())
					}
				}
			}
			others := []string{uptoText(3), incText(2), keptText(sample(5, 5))}
			for i := range len(others) + 1 {
				bodies := slices.Insert(slices.Clone(others), i, x.body)
				want := append([]api.Event{sample(5, 5)}, x.events...)
				if i < 3 {
					want = append(slices.Clone(x.events), sample(5, 5))
				}
				r, e := opened(t, "", bodies...)
				if e != api.OK {
					t.Fatalf("Open = %d", e)
				}
				knows(t, r.s, max(3, x.upto), max(2, x.inc), want...)
				follows(t, 600, join(on(bodies...), []step{open(), next(), bump()}))
			}
		})
	}
}

// P15.1, P15.4: each record that may not be, alone, as the first, in the midst and as the last, ahead of what is torn too: ErrForm, and the disk stays as it is.
func TestRecordsThatMayNotBe(t *testing.T) {
	for name, body := range mayNotBe() {
		t.Run(name, func(t *testing.T) {
			for _, bodies := range [][]string{{body}, {body, uptoText(8)}, {uptoText(8), body, incText(1)}, {uptoText(8), keptText(sample(5, 5)), body}, {body, body}} {
				for _, tail := range []string{"", "torn", framedText("x")[:4]} {
					r, e := opened(t, tail, bodies...)
					if e != api.ErrForm || r.s != nil {
						t.Fatalf("Open of %q = %v, %d", bodies, r.s, e)
					}
					head := []step{add(framesText(bodies...) + tail), sync()}
					refused(t, 500, head, open(), api.ErrForm)
					waits := []step{add(framesText(bodies...)), sync(), add(framedText(uptoText(9)) + tail)}
					refused(t, 500, waits, open(), api.ErrForm)
				}
			}
			// A store that there is goes on, when another one can't be opened.
			refused(t, 500, join([]step{open(), next(), bump(), keep(sample(5, 5))}, on(body)), open(), api.ErrForm)
		})
	}
}

// P15.1: what may not be is nothing, once it is torn.
func TestTornRecordThatMayNotBe(t *testing.T) {
	for _, body := range mayNotBe() {
		f := framedText(body)
		for n := range f {
			r, e := opened(t, f[:n], uptoText(8))
			if e != api.OK {
				t.Fatalf("Open behind %d bytes of %q = %d", n, body, e)
			}
			knows(t, r.s, 8, 0)
			if got := string(r.d.Read()); got != framedText(uptoText(8)) {
				t.Errorf("there is %q", got)
			}
		}
	}
}

// byWords asks of a record alone for what the document says.
func byWords(t *testing.T, body string) {
	t.Helper()
	m := toldBy(100+len(body), on(body)...)
	_, want := open().told(m)
	r, e := opened(t, "", body)
	if e != want {
		t.Fatalf("Open of %q = %d, want %d", body, e, want)
	}
	if e == api.OK && (r.s.Upto() != m.upto || r.s.Inc() != m.inc || !sameAll(r.s.Events(), m.events)) {
		t.Fatalf("%q: Upto %d, Inc %d, Events %v, want %d, %d, %v", body, r.s.Upto(), r.s.Inc(), r.s.Events(), m.upto, m.inc, m.events)
	}
}

// P15.1: all records of up to three bytes from some that matter; of each first byte, alone and with one more.
func TestAllShortRecords(t *testing.T) {
	matter := []byte{0, 1, 2, 3, 4, 8, 0x20, 0x5f, 0x60, 0x61, 0x7f, 0x80, 0x81, 0xff}
	byWords(t, "")
	for _, a := range matter {
		for _, b := range matter {
			for _, c := range matter {
				byWords(t, string([]byte{a, b, c}))
			}
		}
	}
	for a := range 256 {
		byWords(t, string([]byte{byte(a)}))
		for b := range 256 {
			byWords(t, string([]byte{byte(a), byte(b)}))
		}
	}
}

// P15.1: records of all kinds, with a byte turned, taken away and put in, at each place.
func TestTurnedRecords(t *testing.T) {
	for _, body := range []string{uptoText(96), incText(1), incText(300), incText(top), keptText(sample(1, 2)), keptText(set(3, 4, dots(0, 1, 3, 3)...)), keptText(del(7, 96, dots(0, 1)...))} {
		for i := range len(body) + 1 {
			for _, b := range []byte{0, 1, 2, 3, 4, 7, 8, 0x20, 0x60, 0x61, 0x7f, 0x80, 0xff} {
				byWords(t, body[:i]+string([]byte{b})+body[i:])
				if i < len(body) {
					byWords(t, body[:i]+string([]byte{b})+body[i+1:])
					byWords(t, body[:i]+body[i+1:])
					byWords(t, body[:i])
				}
			}
		}
	}
}

// orders calls do with a list in every order.
func orders(l []string, do func(l []string)) {
	if len(l) == 0 {
		do(nil)
		return
	}
	for i := range l {
		others := slices.Delete(slices.Clone(l), i, i+1)
		orders(others, func(behind []string) { do(append([]string{l[i]}, behind...)) })
	}
}

// P15.1: several reservations and incarnations, going up and down, in every order: the greatest count.
func TestGreatest(t *testing.T) {
	orders([]string{uptoText(8), uptoText(40), uptoText(0), incText(3), incText(200), incText(0)}, func(l []string) {
		r, e := opened(t, "", l...)
		if e != api.OK {
			t.Fatalf("Open of %q = %d", l, e)
		}
		knows(t, r.s, 40, 200)
		if string(r.d.Read()) != framesText(l...) {
			t.Errorf("there is %q", r.d.Read())
		}
	})
	for _, x := range []struct{ a, b, want int }{{7, 8, 8}, {8, 7, 8}, {96, 8, 96}, {8, 96, 96}, {5, 5, 5}, {0, 0, 0}} {
		r, _ := opened(t, "", uptoText(x.a), uptoText(x.b))
		knows(t, r.s, x.want, 0)
		r, _ = opened(t, "", incText(x.a), incText(x.b))
		knows(t, r.s, 0, x.want)
		tells(t, 100, join(on(incText(x.a), incText(x.b)), []step{open()}), bump(), x.want+1)
	}
}

// P15.1: of several events of one dot the first one alone is kept, alike and not; the others in the order of the records, not of their dots.
func TestEventsOfRecords(t *testing.T) {
	other := changed(sample(1, 1), func(e *api.Event) { e.Value = 6 })
	for _, x := range []struct {
		name    string
		l, want []api.Event
	}{
		{"one", []api.Event{sample(1, 1)}, []api.Event{sample(1, 1)}},
		{"in order", []api.Event{sample(0, 1), set(0, 2), del(1, 1)}, []api.Event{sample(0, 1), set(0, 2), del(1, 1)}},
		{"out of order", []api.Event{sample(7, 9), sample(0, 3), del(7, 1), sample(0, 2)}, []api.Event{sample(7, 9), sample(0, 3), del(7, 1), sample(0, 2)}},
		{"one twice", []api.Event{sample(1, 1), sample(1, 1)}, []api.Event{sample(1, 1)}},
		{"two of one dot", []api.Event{sample(1, 1), other}, []api.Event{sample(1, 1)}},
		{"turned round", []api.Event{other, sample(1, 1)}, []api.Event{other}},
		{"two of one dot and unlike Kinds", []api.Event{del(1, 1), set(1, 1), sample(1, 1)}, []api.Event{del(1, 1)}},
		{"others between", []api.Event{sample(2, 1), sample(1, 1), sample(1, 2), other, sample(2, 1), sample(0, 1)}, []api.Event{sample(2, 1), sample(1, 1), sample(1, 2), sample(0, 1)}},
		{"of one number, of unlike nodes", []api.Event{sample(1, 5), sample(2, 5)}, []api.Event{sample(1, 5), sample(2, 5)}},
		{"of one node, of unlike numbers", []api.Event{sample(2, 5), sample(2, 6)}, []api.Event{sample(2, 5), sample(2, 6)}},
		{"one that removes another one", []api.Event{sample(1, 1), del(1, 2, dots(1, 1)...)}, []api.Event{sample(1, 1), del(1, 2, dots(1, 1)...)}},
		{"the greatest", []api.Event{full(), sample(6, 1)}, []api.Event{full(), sample(6, 1)}},
	} {
		t.Run(x.name, func(t *testing.T) {
			r, e := opened(t, "", keptTexts(x.l)...)
			if e != api.OK {
				t.Fatalf("Open = %d", e)
			}
			knows(t, r.s, 0, 0, x.want...)
			var both []string
			for i, body := range keptTexts(x.l) {
				both = append(both, body, uptoText(i), incText(i))
			}
			follows(t, 1000, join(on(both...), []step{open(), keep(sample(1, 1)), keep(sample(4, 4)), open()}))
		})
	}
}

// P15.1: the disk is mended first: what is torn is gone, and what is written next is read.
func TestOpenMends(t *testing.T) {
	bodies := []string{uptoText(8), incText(4), keptText(sample(1, 1))}
	for i := range len(bodies) + 1 {
		head := framesText(bodies[:i]...)
		for _, tail := range []string{"\x00", "torn", "\x01", "\x01\x02", framedText(uptoText(16))[:7], framedText(keptText(full()))[:200], framedText(incText(9))[1:], "\x02" + framedText(incText(9))} {
			goes(t, 500, []step{add(head + tail), sync(), open(), keep(sample(2, 2)), open(), bump(), next(), open()})
			goes(t, 500, []step{add(head), sync(), add(tail), open(), keep(sample(2, 2)), crash(0), open()})
			goes(t, 500, []step{add(head + tail), crash(len(head) + 1), open(), bump(), crash(0), open()})
			r := actualBy(t, 500, add(head+tail), sync(), open())
			if string(r.d.Read()) != head || r.d.Waiting() != 0 {
				t.Errorf("there is %q", r.d.Read())
			}
		}
	}
}

// P15.1: what waits on a disk that isn't torn is read, but waits on, and may be lost.
func TestOpenWhereSomeWait(t *testing.T) {
	f := framesText(uptoText(16), incText(3), keptText(sample(1, 1)))
	for keep := range len(f) + 1 {
		follows(t, 200, []step{add(f), open(), crash(keep), next(), open(), next(), bump()})
	}
	follows(t, 200, []step{add(f), open(), next(), crash(0), open(), next()})
	follows(t, 200, join(on(incText(9)), []step{swap(f), open(), bump(), crash(0), open()}))
}

// P15.2: Next tells all numbers, each once, up to MaxSeq, and reserves a block ahead of the first of each; then it is full, again and again.
func TestNextAll(t *testing.T) {
	r := actualBy(t, 200, open())
	var bodies []string
	for want := 1; want <= 96; want++ {
		if want%8 == 1 {
			bodies = append(bodies, uptoText(want+7))
		}
		if n, e := r.s.Next(); n != want || e != api.OK {
			t.Fatalf("Next = %d, %d, want %d", n, e, want)
		}
		knows(t, r.s, (want+7)/8*8, 0)
		if string(r.d.Read()) != framesText(bodies...) || r.d.Waiting() != 0 {
			t.Fatalf("behind %d there is %q", want, r.d.Read())
		}
	}
	refused(t, 200, append(times(96, next()), open()), open(), api.OK)
	all := append([]step{open()}, times(96, next())...)
	for range 3 {
		refused(t, 200, all, next(), api.ErrFull)
		all = append(all, next())
	}
	follows(t, 200, append(all, bump(), next(), open(), next(), bump(), keep(sample(1, 1)), compact(), next(), open(), next()))
}

// P15.1, P15.2: behind Open all numbers up to Upto are used up, wherever that is; a block reaches as far as MaxSeq.
func TestNextBehindEachUpto(t *testing.T) {
	for upto := range 97 {
		head := append(on(uptoText(upto)), open())
		if upto == 96 {
			refused(t, 300, head, next(), api.ErrFull)
			continue
		}
		r := actualBy(t, 300, head...)
		reserved := upto
		for want := upto + 1; want <= 96; want++ {
			if want > reserved {
				reserved = min(reserved+8, 96)
			}
			if n, e := r.s.Next(); n != want || e != api.OK || r.s.Upto() != reserved {
				t.Fatalf("behind %d: Next = %d, %d, Upto %d, want %d, %d", upto, n, e, r.s.Upto(), want, reserved)
			}
		}
		if n, e := r.s.Next(); n != 0 || e != api.ErrFull {
			t.Fatalf("Next = %d, %d", n, e)
		}
		follows(t, 300, append(head, times(100-upto, next())...))
	}
}

// P15.2: opened again behind each number that was told, Next tells the first one of the next block.
func TestNextBehindOpen(t *testing.T) {
	for told := range 97 {
		head := join([]step{open()}, times(told, next()), []step{open()})
		first := (told+7)/8*8 + 1
		if first > 96 {
			refused(t, 300, head, next(), api.ErrFull)
			continue
		}
		tells(t, 300, head, next(), first)
	}
	follows(t, 300, slices.Repeat([]step{open(), next()}, 15))
	follows(t, 300, slices.Repeat([]step{open(), open(), next(), next()}, 15))
}

// P15.2: where there is no room for the record, numbers that are reserved are told still, and no more.
func TestNextNoRoom(t *testing.T) {
	const record = 8 // a frame of two bytes
	for size := 1; size < 3*record+2; size++ {
		r := actualBy(t, size, open())
		fits := size / record * 8
		for want := 1; want <= fits; want++ {
			if n, e := r.s.Next(); n != want || e != api.OK {
				t.Fatalf("of %d bytes: Next = %d, %d, want %d", size, n, e, want)
			}
		}
		full := append([]step{open()}, times(fits, next())...)
		for range 3 {
			refused(t, size, full, next(), api.ErrFull)
			full = append(full, next())
		}
		follows(t, size, append(full, open(), next(), bump()))
	}
	// It goes on, once there is room.
	tells(t, 16, join(on("\x02\x05", "\x02\x06"), []step{open(), next(), swap(""), sync()}), next(), 1)
	follows(t, 24, []step{open(), next(), bump(), keep(sample(1, 1)), compact(), next(), open(), next(), next()})
}

// P15.2: Bump tells one incarnation behind the other, behind Open and Compact too.
func TestBump(t *testing.T) {
	r := actualBy(t, 3000, open())
	var bodies []string
	for want := 1; want <= 200; want++ {
		if n, e := r.s.Bump(); n != want || e != api.OK {
			t.Fatalf("Bump = %d, %d, want %d", n, e, want)
		}
		bodies = append(bodies, incText(want))
		knows(t, r.s, 0, want)
		if string(r.d.Read()) != framesText(bodies...) || r.d.Waiting() != 0 {
			t.Fatalf("behind %d there is %q", want, r.d.Read())
		}
		if want%7 == 0 {
			open().actual(r)
			knows(t, r.s, 0, want)
		}
	}
	follows(t, 300, []step{open(), bump(), bump(), compact(), bump(), open(), bump(), next(), bump()})
}

// P15.2: no incarnation is above Top: that is told ahead of a disk without room.
func TestBumpTop(t *testing.T) {
	for _, inc := range []int{126, 127, 128, top - 2, top - 1} {
		tells(t, 100, append(on(incText(inc)), open()), bump(), inc+1)
	}
	at := append(on(incText(top)), open())
	refused(t, 100, at, bump(), api.ErrFull)
	refused(t, len(framedText(incText(top))), at, bump(), api.ErrFull)
	below := append(on(incText(top-1)), open(), bump())
	refused(t, 100, below, bump(), api.ErrFull)
	follows(t, 100, append(below, bump(), open(), bump(), compact(), open(), bump(), next()))
	// What has no room may still come below Top.
	refused(t, len(framedText(incText(top-1))), append(on(incText(top-1)), open()), bump(), api.ErrFull)
}

// P15.2: Bump on a disk without room for the record.
func TestBumpNoRoom(t *testing.T) {
	for size := 1; size < 8; size++ {
		refused(t, size, []step{open()}, bump(), api.ErrFull)
	}
	tells(t, 8, []step{open()}, bump(), 1)
	for size := 8; size < 16; size++ {
		refused(t, size, []step{open(), bump()}, bump(), api.ErrFull)
		refused(t, size, []step{open(), next()}, bump(), api.ErrFull)
	}
	// The record of 128 is one byte longer.
	at := append(on(incText(127)), open())
	refused(t, 16, at, bump(), api.ErrFull)
	tells(t, 17, at, bump(), 128)
}

// P15.3: Keep keeps events of all Kinds behind one another, in the order in which they came; opened again, they are there.
func TestKeep(t *testing.T) {
	l := []api.Event{sample(7, 9), set(0, 3, dots(0, 1, 7, 9)...), del(7, 1), sample(0, 2), full(), del(3, 3, dots(0, 3)...), set(0, 1)}
	r := actualBy(t, 1000, open())
	for i, e := range l {
		if got := r.s.Keep(e); got != api.OK {
			t.Fatalf("Keep of %v = %d", e, got)
		}
		knows(t, r.s, 0, 0, l[:i+1]...)
		if string(r.d.Read()) != framesText(keptTexts(l[:i+1])...) || r.d.Waiting() != 0 {
			t.Fatalf("there is %q", r.d.Read())
		}
		again, _ := Open(r.d)
		knows(t, again, 0, 0, l[:i+1]...)
	}
}

// P15.3: an event of each dot that there is can be kept, on one disk, and none of them twice.
func TestKeepAll(t *testing.T) {
	r := actualBy(t, api.MaxDisk, open())
	var l []api.Event
	for i := range 768 {
		l = append(l, sample(i*5%8, i*5/8%96+1))
	}
	for _, e := range l {
		if got := r.s.Keep(e); got != api.OK {
			t.Fatalf("Keep of %v = %d", e, got)
		}
	}
	for _, e := range l {
		if got := r.s.Keep(e); got != api.ErrTwice {
			t.Fatalf("Keep of %v = %d", e, got)
		}
	}
	knows(t, r.s, 0, 0, l...)
	again, e := Open(r.d)
	if e != api.OK {
		t.Fatalf("Open = %d", e)
	}
	knows(t, again, 0, 0, l...)
	slices.Reverse(l)
	if e := again.Compact(l); e != api.OK {
		t.Fatalf("Compact = %d", e)
	}
	knows(t, again, 0, 0, l...)
}

// P15.3: what Keep refuses: what isn't right ahead of what is kept, that ahead of a disk without room.
func TestKeepRefused(t *testing.T) {
	kept := []step{open(), keep(sample(1, 1)), keep(set(1, 2)), keep(sample(2, 1))}
	room := len(framesText(keptTexts([]api.Event{sample(1, 1), set(1, 2), sample(2, 1)})...))
	need := len(framedText(keptText(sample(3, 1))))
	for _, e := range wrongs() {
		for _, size := range []int{1000, room, room + need} {
			refused(t, size, kept, keep(e), api.ErrArg)
		}
		refused(t, 1, []step{open()}, keep(e), api.ErrArg)
	}
	for _, e := range []api.Event{sample(1, 1), changed(sample(1, 1), func(e *api.Event) { e.Value = 6 }), del(1, 1), set(1, 1, dots(1, 2)...), sample(1, 2), set(1, 2), sample(2, 1), del(2, 1)} {
		for _, size := range []int{1000, room, room + need - 1} {
			refused(t, size, kept, keep(e), api.ErrTwice)
			refused(t, size, append(slices.Clip(kept), open()), keep(e), api.ErrTwice)
		}
	}
	for size := room; size < room+need; size++ {
		refused(t, size, kept, keep(sample(3, 1)), api.ErrFull)
	}
	goes(t, room+need, append(slices.Clip(kept), keep(sample(3, 1)), open()))
	refused(t, room+need, append(slices.Clip(kept), keep(sample(3, 1))), keep(sample(3, 2)), api.ErrFull)
	refused(t, 15, []step{open()}, keep(full()), api.ErrFull)
	// Refused once, it is kept when there is room; so is what was kept, when it is no more.
	follows(t, room+need-1, append(slices.Clip(kept), keep(sample(3, 1)), compact(sample(1, 1)), keep(sample(3, 1)), keep(set(1, 2)), keep(sample(1, 1)), open()))
}

// P15.3: dots that are removed are no dots that are kept.
func TestKeepWhatIsRemoved(t *testing.T) {
	goes(t, 500, []step{open(), keep(del(1, 1, dots(1, 2, 2, 2)...)), keep(sample(1, 2)), open(), keep(sample(2, 2)), keep(set(3, 3, dots(1, 1)...))})
}

// P15.3: Compact for what is kept, for less, for more, for others, in another order, for nothing and nil; Next and Bump go on as before, opened again too.
func TestCompact(t *testing.T) {
	a, b, c := sample(1, 1), set(2, 2, dots(1, 1)...), del(0, 3, dots(2, 2)...)
	heads := [][]step{
		{open()},
		{open(), next(), next(), bump(), keep(a), keep(b), keep(c)},
		join([]step{open(), keep(b)}, times(9, next()), times(3, bump()), []step{open(), next(), keep(a)}),
		join([]step{open()}, times(8, next())),
		append(on(uptoText(96), incText(top), keptText(c), uptoText(1), incText(1)), open()),
		{add(framesText(uptoText(5), keptText(b)) + "torn"), sync(), open()},
		{open(), keep(a), add("torn"), sync()},
		{open(), next(), keep(a), add(framedText(incText(9)))},
	}
	for _, head := range heads {
		for _, l := range [][]api.Event{nil, {}, {a}, {b}, {a, b, c}, {c, b, a}, {c, a}, {a, b, c, sample(7, 7)}, {changed(a, func(e *api.Event) { e.Value = 99 })}, {sample(5, 5), sample(4, 4), full()}} {
			goes(t, 1000, append(slices.Clip(head), compact(l...), compact(l...)))
			m, r := toldBy(1000, head...), actualBy(t, 1000, append(slices.Clip(head), compact(l...))...)
			knows(t, r.s, m.upto, m.inc, l...)
			if got := string(r.d.Read()); got != m.compacted(l) || r.d.Waiting() != 0 {
				t.Fatalf("%s, compact %v: there is %q", names(head), l, got)
			}
			again, e := Open(r.d)
			if e != api.OK {
				t.Fatalf("Open = %d", e)
			}
			knows(t, again, m.upto, m.inc, l...)
			behind := []step{next(), bump(), keep(a), keep(sample(6, 6)), next(), compact(b, a), next(), bump(), open(), next(), bump(), keep(b), keep(c)}
			follows(t, 1000, join(head, []step{compact(l...)}, behind))
			follows(t, 1000, join(head, []step{compact(l...), open()}, behind))
		}
	}
}

// P15.3: what Compact refuses: one that isn't right, or two of one dot, wherever they are, ahead of a disk without room.
func TestCompactRefused(t *testing.T) {
	a, b, c := sample(1, 1), set(2, 2, dots(1, 1)...), del(0, 3)
	head := []step{open(), next(), bump(), keep(a), keep(sample(5, 5))}
	size := len(toldBy(1000, head...).disk.read())
	like := changed(a, func(e *api.Event) { e.Time++ })
	var lists [][]api.Event
	for _, e := range wrongs() {
		lists = append(lists, []api.Event{e}, []api.Event{e, a, b}, []api.Event{a, e, b}, []api.Event{a, b, e}, []api.Event{a, e, e}, []api.Event{a, a, e}, []api.Event{e, a, a})
	}
	lists = append(lists, []api.Event{a, a}, []api.Event{a, like}, []api.Event{a, a, b}, []api.Event{a, b, a}, []api.Event{b, a, a}, []api.Event{b, c, a, b}, []api.Event{a, del(1, 1)}, []api.Event{a, a, a})
	for _, l := range lists {
		refused(t, 1000, head, compact(l...), api.ErrArg)
		refused(t, size, head, compact(l...), api.ErrArg)
	}
	refused(t, 1, []step{open()}, compact(a, full(), api.Event{}), api.ErrArg)
	refused(t, 1, []step{open()}, compact(a, full(), a), api.ErrArg)
	// Very many of one dot, and very many that aren't right.
	refused(t, 1000, head, compact(slices.Repeat([]api.Event{a}, 100000)...), api.ErrArg)
	refused(t, 1000, head, compact(make([]api.Event, 100000)...), api.ErrArg)
	// Events of all dots that there are, then one of them once more.
	var all []api.Event
	for i := range 768 {
		all = append(all, sample(i/96, i%96+1))
	}
	refused(t, api.MaxDisk, head, compact(append(slices.Clip(all), a)...), api.ErrArg)
	goes(t, api.MaxDisk, append(slices.Clip(head), compact(all...)))
}

// P15.3: Compact for just what there is room for, and for one byte more; Upto's record and Inc's need room too, when they are 0.
func TestCompactNoRoom(t *testing.T) {
	a, b := sample(1, 1), set(2, 2, dots(1, 1)...)
	for _, x := range []struct {
		head []step
		l    []api.Event
	}{
		{[]step{open()}, nil},
		{[]step{open()}, []api.Event{a}},
		{[]step{open(), next()}, nil},
		{[]step{open(), bump()}, []api.Event{b}},
		{[]step{open(), next(), bump()}, []api.Event{a, b, full()}},
		{[]step{open(), next(), bump(), keep(a)}, []api.Event{a, b}},
		{append(on(incText(top)), open()), []api.Event{a}},
	} {
		need := len(toldBy(1000, x.head...).compacted(x.l))
		has := len(toldBy(1000, x.head...).disk.read())
		for _, size := range []int{need - 1, need - 5, has} {
			if size >= has && size < need && size > 0 {
				refused(t, size, x.head, compact(x.l...), api.ErrFull)
				follows(t, size, append(slices.Clip(x.head), compact(x.l...), next(), bump(), open()))
			}
		}
		if need >= has {
			goes(t, need, append(slices.Clip(x.head), compact(x.l...), open()))
		}
	}
	var many []api.Event
	for seq := 1; seq <= 96; seq++ {
		many = append(many, changed(full(), func(e *api.Event) { e.Dot = dot(5, seq) }))
	}
	refused(t, api.MaxDisk, []step{open(), next(), keep(a)}, compact(many...), api.ErrFull)
}

// P15.1 to P15.3: two stores over one disk, one behind the other: what the first one wrote the second one knows.
func TestTwoStores(t *testing.T) {
	r := actualBy(t, 500, open(), next(), next(), bump(), keep(sample(1, 1)))
	first := r.s
	second, e := Open(r.d)
	if e != api.OK || second == first {
		t.Fatalf("Open = %d", e)
	}
	knows(t, second, 8, 1, sample(1, 1))
	if n, e := second.Next(); n != 9 || e != api.OK {
		t.Errorf("Next = %d, %d", n, e)
	}
	if n, e := second.Bump(); n != 2 || e != api.OK {
		t.Errorf("Bump = %d, %d", n, e)
	}
	if e := second.Keep(sample(1, 1)); e != api.ErrTwice {
		t.Errorf("Keep = %d", e)
	}
	if e := second.Keep(sample(1, 2)); e != api.OK {
		t.Errorf("Keep = %d", e)
	}
	// What the first one knows is its own; what both wrote is on the disk, one behind the other.
	knows(t, first, 8, 1, sample(1, 1))
	knows(t, second, 16, 2, sample(1, 1), sample(1, 2))
	want := framesText(uptoText(8), incText(1), keptText(sample(1, 1)), uptoText(16), incText(2), keptText(sample(1, 2)))
	if string(r.d.Read()) != want {
		t.Errorf("there is %q", r.d.Read())
	}
	third, _ := Open(r.d)
	knows(t, third, 16, 2, sample(1, 1), sample(1, 2))
	if n, e := third.Next(); n != 17 || e != api.OK {
		t.Errorf("Next = %d, %d", n, e)
	}
}

// P15.1: stores over disks of their own are apart.
func TestApart(t *testing.T) {
	a, b := actualBy(t, 100, open()), actualBy(t, 100, open())
	a.s.Next()
	a.s.Bump()
	a.s.Keep(sample(1, 1))
	knows(t, b.s, 0, 0)
	b.s.Keep(sample(2, 2))
	b.s.Compact(nil)
	knows(t, a.s, 8, 1, sample(1, 1))
	knows(t, b.s, 0, 0)
	if n, _ := b.s.Next(); n != 1 {
		t.Errorf("Next = %d", n)
	}
}

// P15.4: a crash of each number of units in the midst of each kind of record: what was there is there, and the record when it is whole; what comes next is greater than all that was told.
func TestCrashInRecord(t *testing.T) {
	head := []step{open(), next(), next(), bump(), keep(sample(1, 1)), keep(del(1, 2, dots(0, 1)...))}
	had := toldBy(500, head...)
	for _, x := range []struct {
		body      string
		upto, inc int
		more      []api.Event
	}{
		{uptoText(16), 16, 1, nil},
		{incText(2), 8, 2, nil},
		{keptText(sample(3, 3)), 8, 1, []api.Event{sample(3, 3)}},
		{keptText(set(3, 3, dots(1, 1, 2, 96)...)), 8, 1, []api.Event{set(3, 3, dots(1, 1, 2, 96)...)}},
	} {
		f := framedText(x.body)
		for keep := -1; keep <= len(f)+1; keep++ {
			r := actualBy(t, 500, append(slices.Clip(head), add(f), crash(keep), open())...)
			upto, inc, want, there := 8, 1, had.events, had.disk.read()
			if keep >= len(f) {
				upto, inc, want, there = x.upto, x.inc, slices.Concat(had.events, x.more), there+f
			}
			knows(t, r.s, upto, inc, want...)
			if got := string(r.d.Read()); got != there || r.d.Waiting() != 0 {
				t.Fatalf("behind %d units of %q there is %q", keep, x.body, got)
			}
			if n, e := r.s.Next(); n != upto+1 || e != api.OK {
				t.Fatalf("Next = %d, %d", n, e)
			}
			if n, e := r.s.Bump(); n != inc+1 || e != api.OK {
				t.Fatalf("Bump = %d, %d", n, e)
			}
			if e := r.s.Keep(sample(7, 7)); e != api.OK {
				t.Fatalf("Keep = %d", e)
			}
			r.d.Crash(0)
			again, e := Open(r.d)
			if e != api.OK {
				t.Fatalf("Open = %d", e)
			}
			knows(t, again, upto+8, inc+1, append(slices.Clip(want), sample(7, 7))...)
		}
	}
}

// P15.4: a crash in the midst of Compact's swap: all of it, or nothing; no number and no incarnation is lost.
func TestCrashInCompact(t *testing.T) {
	head := []step{open(), next(), next(), bump(), bump(), keep(sample(1, 1)), keep(sample(1, 2))}
	had := toldBy(500, head...)
	for _, l := range [][]api.Event{nil, {sample(1, 2)}, {sample(1, 2), sample(4, 4)}} {
		for keep := -1; keep < 3; keep++ {
			r := actualBy(t, 500, append(slices.Clip(head), swap(had.compacted(l)), crash(keep), open())...)
			want := had.events
			if keep > 0 {
				want = l
			}
			knows(t, r.s, 8, 2, want...)
			if n, e := r.s.Next(); n != 9 || e != api.OK {
				t.Fatalf("Next = %d, %d", n, e)
			}
			if n, e := r.s.Bump(); n != 3 || e != api.OK {
				t.Fatalf("Bump = %d, %d", n, e)
			}
		}
	}
}

// P15.4: what each call was OK for lasts at once: a crash that keeps nothing takes nothing of it.
func TestLastsAtOnce(t *testing.T) {
	goes(t, 500, []step{
		open(), next(), crash(0), open(), next(), bump(), crash(0), open(), bump(), keep(sample(1, 1)), crash(0), open(), keep(set(1, 2)), crash(0), open(),
		compact(set(1, 2), sample(3, 3)), crash(0), open(), next(), bump(), crash(0), open(), compact(), crash(0), open(), next(), bump(),
	})
	for _, x := range []struct {
		name string
		do   step
		upto int
		inc  int
		l    []api.Event
	}{
		{"Next", next(), 16, 1, []api.Event{sample(1, 1)}},
		{"Bump", bump(), 8, 2, []api.Event{sample(1, 1)}},
		{"Keep", keep(sample(2, 2)), 8, 1, []api.Event{sample(1, 1), sample(2, 2)}},
		{"Compact", compact(sample(3, 3)), 8, 1, []api.Event{sample(3, 3)}},
	} {
		t.Run(x.name, func(t *testing.T) {
			head := []step{open(), next(), bump(), keep(sample(1, 1)), open()}
			r := actualBy(t, 500, append(head, x.do, crash(0), open())...)
			knows(t, r.s, x.upto, x.inc, x.l...)
		})
	}
}

// life is what a node's stores told, one behind the other over one disk, with crashes between.
type life struct {
	t    *testing.T
	r    *actual
	told map[int]bool // numbers
	inc  int
	had  []api.Event
}

// next, bump, keep and compact are done, and what they told is remembered.
func (x *life) next() {
	n, e := x.r.s.Next()
	if e != api.OK {
		return
	}
	if n < 1 || n > 96 || x.told[n] {
		x.t.Fatalf("Next = %d", n)
	}
	x.told[n] = true
}
func (x *life) bump() {
	n, e := x.r.s.Bump()
	if e != api.OK {
		return
	}
	if n <= x.inc {
		x.t.Fatalf("Bump = %d, behind %d", n, x.inc)
	}
	x.inc = n
}
func (x *life) keep(e api.Event) {
	if x.r.s.Keep(e) == api.OK {
		x.had = append(slices.Clip(x.had), e)
	}
}
func (x *life) compact(l []api.Event) {
	if x.r.s.Compact(l) == api.OK {
		x.had = slices.Clone(l)
	}
}

// wake opens another store behind a crash that keeps so many units of what is on its way: what was had is there, or what was to be in its place.
func (x *life) wake(keep int, instead []api.Event) {
	x.r.d.Crash(keep)
	s, e := Open(x.r.d)
	if e != api.OK {
		x.t.Fatalf("Open = %d", e)
	}
	got := s.Events()
	if !sameAll(got, x.had) && !sameAll(got, instead) {
		x.t.Fatalf("Events = %v, want %v or %v", got, x.had, instead)
	}
	if s.Inc() < x.inc {
		x.t.Fatalf("Inc = %d, behind %d", s.Inc(), x.inc)
	}
	for n := range x.told {
		if n > s.Upto() {
			x.t.Fatalf("Upto = %d, behind %d", s.Upto(), n)
		}
	}
	x.r.s, x.had = s, got
}

// way has a record be on its way, if there is room for it, and a crash cut it.
func (x *life) way(r *rand.Rand, body string, instead []api.Event) {
	x.r.d.Append([]byte(framedText(body)))
	x.wake(r.Intn(x.r.d.Waiting()+1), instead)
}

// P15.4: whatever a node does, and wherever it crashes: what Keep was OK for is there, no number comes again, each incarnation that was told is known.
func TestLongLife(t *testing.T) {
	r := rand.New(rand.NewSource(15))
	for range 300 {
		x := &life{t: t, r: actualBy(t, 20+r.Intn(400), open()), told: map[int]bool{}}
		for range 80 {
			e := chanceEvent(r)
			switch r.Intn(10) {
			case 0, 1, 2:
				x.next()
			case 3:
				x.bump()
			case 4, 5:
				x.keep(e)
			case 6:
				x.compact(slices.Clone(x.had[r.Intn(len(x.had)+1):]))
			case 7:
				x.way(r, []string{uptoText(min(x.r.s.Upto()+8, 96)), incText(x.r.s.Inc() + 1)}[r.Intn(2)], nil)
			case 8:
				instead := x.had
				if !hasDot(x.had, e.Dot) {
					instead = append(slices.Clip(x.had), e)
				}
				x.way(r, keptText(e), instead)
			case 9:
				l := x.had[r.Intn(len(x.had)+1):]
				m := &told{upto: x.r.s.Upto(), inc: x.r.s.Inc()}
				x.r.d.Swap([]byte(m.compacted(l)))
				x.wake(r.Intn(2), l)
			}
		}
	}
}

// chanceEvent is a right event by chance, of a few dots.
func chanceEvent(r *rand.Rand) api.Event {
	node, seq := r.Intn(3), 1+r.Intn(4)
	var removes []api.Dot
	for n := range 8 {
		if d := dot(n, 1+r.Intn(96)); r.Intn(4) == 0 && d != dot(node, seq) {
			removes = append(removes, d)
		}
	}
	switch r.Intn(4) {
	case 0:
		return set(node, seq, removes...)
	case 1:
		return del(node, seq, removes...)
	}
	return changed(sample(node, seq), func(e *api.Event) { e.Value = r.Intn(1 << r.Intn(40)) })
}

// few are steps of all kinds, with some that must be refused.
func few() []step {
	a, b := sample(1, 1), del(2, 2, dots(1, 1)...)
	return []step{
		open(), next(), bump(), keep(a), keep(b), keep(sample(9, 9)), compact(), compact(b, a), compact(a, a),
		add(framedText(uptoText(10))), add(framedText(keptText(del(1, 1)))), add(framedText("\x04")), add(framedText(incText(3))[:5]), add(framedText(incText(3))[5:]),
		swap(framedText(incText(2))), swap(""), sync(), crash(0), crash(9),
	}
}

// P15.1 to P15.4: all ways through three of these steps behind Open, on disks of a few sizes, followed one by one, and opened again.
func TestAllShortWays(t *testing.T) {
	for _, size := range []int{12, 40, 200} {
		for _, a := range few() {
			for _, b := range few() {
				for _, c := range few() {
					follows(t, size, []step{open(), a, b, c, open(), next()})
				}
			}
		}
	}
}

// chance is a step by chance.
func chance(r *rand.Rand) step {
	e := chanceEvent(r)
	bodies := []string{uptoText(r.Intn(97)), incText(r.Intn(1 << r.Intn(40))), keptText(e)}
	f := framedText(bodies[r.Intn(3)])
	switch r.Intn(20) {
	case 0, 1:
		return open()
	case 2, 3, 4, 5:
		return next()
	case 6, 7:
		return bump()
	case 8, 9, 10:
		return keep(e)
	case 11:
		return compact(e, chanceEvent(r))
	case 12:
		return compact(slices.Repeat([]api.Event{e}, r.Intn(3))...)
	case 13:
		return keep(changed(e, func(e *api.Event) { e.Work = r.Intn(10) - 1 }))
	case 14:
		return add(f)
	case 15:
		return add(f[:r.Intn(len(f))])
	case 16:
		return add(framedText(string(rune(r.Intn(6))) + "\x01"))
	case 17:
		return swap(f)
	case 18:
		return sync()
	}
	return crash(r.Intn(40) - 2)
}

// P15.1 to P15.4: many steps by chance, on disks of many sizes.
func TestByChance(t *testing.T) {
	r := rand.New(rand.NewSource(16))
	for range 1500 {
		l := []step{open()}
		for range 60 {
			l = append(l, chance(r))
		}
		follows(t, 1+r.Intn(300), l)
	}
}

// roomy is a list with spare room behind it, in which another one stands; scribble writes over a list and its spare room.
func roomy[T any](l []T, spare T) []T { return append(slices.Clone(l), spare)[:len(l)] }
func scribble[T any](l []T, with T) {
	l = l[:cap(l)]
	for i := range l {
		l[i] = with
	}
}

// handed is an event whose Removes have spare room.
func handed(e api.Event) api.Event {
	e.Removes = roomy(e.Removes, dot(7, 77))
	return e
}

// untouched: an event is as it was, and its Removes' spare room.
func untouched(e, want api.Event) bool {
	return same(e, want) && e.Removes[:len(e.Removes)+1][len(e.Removes)] == dot(7, 77)
}

// P15.3: what Keep was handed it neither changes, its spare room included, nor keeps, whatever it answers.
func TestKeepHandedOver(t *testing.T) {
	for _, x := range []struct {
		e    api.Event
		want api.Errno
	}{
		{set(1, 2, dots(0, 1, 3, 3)...), api.OK}, {del(1, 2, dots(0, 1, 3, 3)...), api.OK}, {del(1, 2), api.OK}, {sample(1, 2), api.OK},
		{set(1, 2, dots(0, 1, 0, 1)...), api.ErrArg}, {set(1, 1, dots(0, 1, 3, 3)...), api.ErrTwice}, {full(), api.ErrFull},
	} {
		r := actualBy(t, 70, open(), keep(sample(1, 1)))
		e := handed(x.e)
		if got := r.s.Keep(e); got != x.want || !untouched(e, x.e) {
			t.Errorf("Keep of %v = %d, want %d; it is now %v", x.e, got, x.want, e)
		}
		want, there := r.s.Events(), string(r.d.Read())
		scribble(e.Removes, dot(6, 66))
		if !sameAll(r.s.Events(), want) || string(r.d.Read()) != there {
			t.Errorf("%v is the store's own", x.e)
		}
	}
}

// P15.3: nor does Compact, of the list, its events' Removes and all spare room.
func TestCompactHandedOver(t *testing.T) {
	for _, x := range []struct {
		l    []api.Event
		want api.Errno
	}{
		{nil, api.OK}, {[]api.Event{set(1, 2, dots(0, 1, 3, 3)...), sample(4, 4), del(2, 2, dots(0, 1)...)}, api.OK},
		{[]api.Event{set(1, 2, dots(0, 1)...), del(1, 2, dots(0, 1)...)}, api.ErrArg}, {[]api.Event{sample(3, 3), full()}, api.ErrFull},
	} {
		r := actualBy(t, 110, open(), next(), keep(del(1, 1, dots(3, 3)...)))
		var l []api.Event
		for _, e := range x.l {
			l = append(l, handed(e))
		}
		l = roomy(l, sample(7, 77))
		if got := r.s.Compact(l); got != x.want || !slices.EqualFunc(l, x.l, untouched) || !same(l[:len(l)+1][len(l)], sample(7, 77)) {
			t.Errorf("Compact of %v = %d, want %d; it is now %v", x.l, got, x.want, l)
		}
		want, there := r.s.Events(), string(r.d.Read())
		for _, e := range l {
			scribble(e.Removes, dot(6, 66))
		}
		scribble(l, sample(6, 66))
		if !sameAll(r.s.Events(), want) || string(r.d.Read()) != there {
			t.Errorf("%v is the store's own", x.l)
		}
	}
}

// P15.3: events that share their Removes, handed over, are apart in the store.
func TestSharedRemoves(t *testing.T) {
	removes := dots(0, 1, 3, 3)
	l := []api.Event{set(1, 1, removes...), del(1, 2, removes[:1]...), del(1, 3, removes...)}
	for _, s := range []step{keep(l[0]), compact(l...)} {
		r := actualBy(t, 500, open(), s)
		r.s.Keep(del(2, 2, removes...))
		got := r.s.Events()
		scribble(got[0].Removes, dot(6, 66))
		for _, e := range got[1:] {
			if slices.Contains(e.Removes[:cap(e.Removes)], dot(6, 66)) {
				t.Errorf("%v shares its Removes", e)
			}
		}
		if removes[0] != dot(0, 1) || removes[1] != dot(3, 3) {
			t.Error("the store has what it was handed")
		}
	}
}

// P15.1: what Events hands out is new memory, its spare room too, apart from the store, and from another answer.
func TestHandedOut(t *testing.T) {
	l := []api.Event{set(1, 2, dots(0, 1, 3, 3)...), sample(4, 4), del(2, 2, dots(0, 1)...)}
	for _, head := range [][]step{{open(), keep(l[0]), keep(l[1]), keep(l[2])}, {open(), compact(l...)}, append(on(keptTexts(l)...), open())} {
		r := actualBy(t, 500, head...)
		first, second := r.s.Events(), r.s.Events()
		for i := range first {
			scribble(first[i].Removes, dot(6, 66))
			for k := i + 1; k < len(first); k++ {
				if !same(first[k], l[k]) {
					t.Errorf("%d shares memory with %d", k, i)
				}
			}
		}
		scribble(first, sample(6, 66))
		if !sameAll(second, l) {
			t.Errorf("another answer is now %v", second)
		}
		knows(t, r.s, 0, 0, l...)
		if e := r.s.Keep(sample(5, 5)); e != api.OK {
			t.Errorf("Keep = %d", e)
		}
		if !sameAll(second, l) {
			t.Errorf("an answer grew: %v", second)
		}
	}
}
