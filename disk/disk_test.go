package disk

import (
	"math"
	"math/rand"
	"slices"
	"strings"
	"testing"

	"murmur/api"
)

// unit is one that waits, by the document's words: a byte that is appended, or a swap, whole.
type unit struct {
	swap bool
	text string
}

// told is a disk by the document's words: what lasts, and the units that wait, one by one.
type told struct {
	size  int
	lasts string
	waits []unit
}

// after is what is there, if so many units were done.
func (m *told) after(keep int) string {
	there := m.lasts
	for i, u := range m.waits {
		if i >= keep {
			break
		}
		if u.swap {
			there = ""
		}
		there += u.text
	}
	return there
}

// read, waiting and room are what the functions of these names tell.
func (m *told) read() string { return m.after(len(m.waits)) }
func (m *told) waiting() int { return len(m.waits) }
func (m *told) room() int    { return m.size - len(m.read()) }

// append, swap, sync and crash are the steps.
func (m *told) append(text string) api.Errno {
	if len(m.read()+text) > m.size {
		return api.ErrFull
	}
	for i := range len(text) {
		m.waits = append(m.waits, unit{false, text[i : i+1]})
	}
	return api.OK
}
func (m *told) swap(text string) api.Errno {
	if len(text) > m.size {
		return api.ErrFull
	}
	m.waits = append(m.waits, unit{true, text})
	return api.OK
}
func (m *told) sync() api.Errno {
	m.lasts, m.waits = m.read(), nil
	return api.OK
}
func (m *told) crash(keep int) api.Errno {
	m.lasts, m.waits = m.after(keep), nil
	return api.OK
}

// step is one, of a disk and of a told one alike; its name is a word, and what it is handed.
type step struct {
	name string
	disk func(d *Disk) api.Errno
	told func(m *told) api.Errno
}

// add, swap, sync and crash are steps.
func add(text string) step {
	return step{"append " + text, func(d *Disk) api.Errno { return d.Append([]byte(text)) }, func(m *told) api.Errno { return m.append(text) }}
}
func swap(text string) step {
	return step{"swap " + text, func(d *Disk) api.Errno { return d.Swap([]byte(text)) }, func(m *told) api.Errno { return m.swap(text) }}
}
func sync() step { return step{"sync", (*Disk).Sync, (*told).sync} }
func crash(keep int) step {
	do := func(d *Disk) api.Errno {
		d.Crash(keep)
		return api.OK
	}
	return step{"crash", do, func(m *told) api.Errno { return m.crash(keep) }}
}

// names are those of steps.
func names(l []step) string {
	var out []string
	for _, s := range l {
		out = append(out, s.name)
	}
	return strings.Join(out, ", ")
}

// made is an empty disk of so many bytes; madeBy is one that took steps, whatever they answered.
func made(t *testing.T, size int) *Disk {
	t.Helper()
	d, e := New(size)
	if e != api.OK || d == nil {
		t.Fatalf("New(%d) = %v, %d", size, d, e)
	}
	return d
}
func madeBy(t *testing.T, size int, l ...step) *Disk {
	t.Helper()
	d := made(t, size)
	for _, s := range l {
		s.disk(d)
	}
	return d
}

// goes has a step go well; refused has it be refused as full, with nothing changed.
func goes(t *testing.T, d *Disk, s step) {
	t.Helper()
	if e := s.disk(d); e != api.OK {
		t.Fatalf("%.60q: %d", s.name, e)
	}
}
func refused(t *testing.T, d *Disk, s step) {
	t.Helper()
	read, waiting, room := string(d.Read()), d.Waiting(), d.Room()
	if e := s.disk(d); e != api.ErrFull {
		t.Fatalf("%.60q: %d, want ErrFull", s.name, e)
	}
	has(t, d, read, waiting, room)
}

// has asks for what Read, Waiting and Room tell, Read twice.
func has(t *testing.T, d *Disk, read string, waiting, room int) {
	t.Helper()
	for range 2 {
		if got := string(d.Read()); got != read {
			t.Fatalf("Read = %.60q of %d bytes, want %.60q of %d", got, len(got), read, len(read))
		}
		if got := d.Waiting(); got != waiting {
			t.Fatalf("Waiting = %d, want %d", got, waiting)
		}
		if got := d.Room(); got != room {
			t.Fatalf("Room = %d, want %d", got, room)
		}
	}
}

// follows has a disk take steps, and asks behind each for what the document says.
func follows(t *testing.T, size int, l []step) {
	t.Helper()
	d, m := made(t, size), &told{size: size}
	for i, s := range l {
		if got, want := s.disk(d), s.told(m); got != want {
			t.Fatalf("%q: %d, want %d", names(l[:i+1]), got, want)
		}
		if string(d.Read()) != m.read() || d.Waiting() != m.waiting() || d.Room() != m.room() {
			t.Fatalf("%q: %q, %d, %d, want %q, %d, %d", names(l[:i+1]), d.Read(), d.Waiting(), d.Room(), m.read(), m.waiting(), m.room())
		}
	}
}

// crashes asks what is there behind steps and a crash, for each number of units, below none and above all too; and that it lasts.
func crashes(t *testing.T, size int, l []step) {
	t.Helper()
	m := &told{size: size}
	for _, s := range l {
		s.told(m)
	}
	keeps := []int{math.MinInt, -2, -1, math.MaxInt}
	for keep := range m.waiting() + 3 {
		keeps = append(keeps, keep)
	}
	for _, keep := range keeps {
		d, want := madeBy(t, size, l...), m.after(keep)
		d.Crash(keep)
		has(t, d, want, 0, size-len(want))
		d.Crash(0)
		has(t, d, want, 0, size-len(want))
	}
}

// P13.1: the sizes that there may be, and those just outside; a disk of each is empty.
func TestNew(t *testing.T) {
	for _, size := range []int{1, 2, 3, 255, 256, 4096, api.MaxDisk - 1, api.MaxDisk} {
		has(t, made(t, size), "", 0, size)
	}
	for _, size := range []int{0, -1, -2, -256, math.MinInt, math.MinInt + 1, api.MaxDisk + 1, api.MaxDisk + 2, 2 * api.MaxDisk, 1 << 32, math.MaxInt - 1, math.MaxInt} {
		if d, e := New(size); d != nil || e != api.ErrArg {
			t.Errorf("New(%d) = %v, %d, want nil, ErrArg", size, d, e)
		}
	}
}

// P13.1: all sizes that there may be: just so many bytes there is room for, appended and swapped.
func TestEachSize(t *testing.T) {
	all := strings.Repeat("x", api.MaxDisk+1)
	for size := 1; size <= api.MaxDisk; size++ {
		// All sizes of some hundred, and each hundredth: the others are alike.
		if size > 300 && size%101 != 0 && size < api.MaxDisk-3 {
			continue
		}
		for _, put := range []func(text string) step{add, swap} {
			d := made(t, size)
			refused(t, d, put(all[:size+1]))
			goes(t, d, put(all[:size]))
			has(t, d, all[:size], d.Waiting(), 0)
			refused(t, d, add("y"))
			d.Sync()
			has(t, d, all[:size], 0, 0)
			refused(t, d, add("y"))
		}
	}
}

// The document's examples.
func TestExamples(t *testing.T) {
	d := made(t, 10)
	for _, x := range []struct {
		do   step
		read string
	}{
		{add("ab"), "ab"}, {sync(), "ab"}, {add("cd"), "abcd"}, {crash(1), "abc"},
		{swap("x"), "x"}, {crash(0), "abc"}, {swap("x"), "x"}, {crash(1), "x"},
	} {
		goes(t, d, x.do)
		if got := string(d.Read()); got != x.read {
			t.Errorf("%s: %q, want %q", x.do.name, got, x.read)
		}
	}
}

// P13.1, P13.2: of a nil Disk each answer is zero, of Append, Swap and Sync ErrNil, ahead of ErrFull; a step of it is none.
func TestNil(t *testing.T) {
	var d *Disk
	long := make([]byte, api.MaxDisk+1)
	for range 2 {
		for _, b := range [][]byte{nil, {}, {1}, long} {
			if e := d.Append(b); e != api.ErrNil {
				t.Errorf("Append of %d bytes = %d", len(b), e)
			}
			if e := d.Swap(b); e != api.ErrNil {
				t.Errorf("Swap of %d bytes = %d", len(b), e)
			}
		}
		if e := d.Sync(); e != api.ErrNil {
			t.Errorf("Sync = %d", e)
		}
		for _, keep := range []int{math.MinInt, -1, 0, 1, math.MaxInt} {
			d.Crash(keep)
		}
		has(t, d, "", 0, 0)
	}
}

// P1: a Disk that New didn't make is one without any room.
func TestNotMade(t *testing.T) {
	for _, d := range []*Disk{{}, new(Disk)} {
		has(t, d, "", 0, 0)
		refused(t, d, add("a"))
		refused(t, d, swap("a"))
		goes(t, d, add(""))
		has(t, d, "", 0, 0)
		goes(t, d, swap(""))
		has(t, d, "", 1, 0)
		goes(t, d, crash(1))
		goes(t, d, sync())
		has(t, d, "", 0, 0)
	}
}

// line is steps in words, and what is to be behind the last of them.
type line struct {
	name          string
	steps         []step
	read          string
	waiting, room int
}

// run has lines be followed, on disks of so many bytes.
func run(t *testing.T, size int, lines []line) {
	for _, x := range lines {
		t.Run(x.name, func(t *testing.T) {
			d := made(t, size)
			for _, s := range x.steps {
				goes(t, d, s)
			}
			has(t, d, x.read, x.waiting, x.room)
			follows(t, size, x.steps)
			crashes(t, size, x.steps)
		})
	}
}

// P13.1: Append stands behind all, Swap in the place of all, of what lasts and of what waits; each that is refused is tried in the next test.
func TestAppendAndSwap(t *testing.T) {
	run(t, 6, []line{
		{"nothing at all", nil, "", 0, 6},
		{"append", []step{add("ab")}, "ab", 2, 4},
		{"append of nothing", []step{add("")}, "", 0, 6},
		{"append of nothing behind some", []step{add("ab"), add("")}, "ab", 2, 4},
		{"append behind what waits", []step{add("ab"), add("c")}, "abc", 3, 3},
		{"append behind what lasts", []step{add("ab"), sync(), add("c")}, "abc", 1, 3},
		{"append of just what there is room for, at once", []step{add("abcdef")}, "abcdef", 6, 0},
		{"append of just what there is room for, behind some", []step{add("abcd"), sync(), add("e"), add("f")}, "abcdef", 2, 0},
		{"append of nothing, where all is full", []step{add("abcdef"), add("")}, "abcdef", 6, 0},
		{"swap on nothing", []step{swap("ab")}, "ab", 1, 4},
		{"swap of nothing on nothing", []step{swap("")}, "", 1, 6},
		{"swap in the place of what waits", []step{add("abc"), swap("x")}, "x", 4, 5},
		{"swap in the place of what lasts", []step{add("abc"), sync(), swap("x")}, "x", 1, 5},
		{"swap in the place of both", []step{add("abc"), sync(), add("d"), swap("x")}, "x", 2, 5},
		{"swap of nothing", []step{add("abc"), sync(), swap("")}, "", 1, 6},
		{"swap for the same", []step{add("abc"), sync(), swap("abc")}, "abc", 1, 3},
		{"swap for more", []step{add("a"), sync(), swap("wxyz")}, "wxyz", 1, 2},
		{"swap of all that a disk holds", []step{swap("uvwxyz")}, "uvwxyz", 1, 0},
		{"swap of all that a full disk holds", []step{add("abcdef"), swap("uvwxyz")}, "uvwxyz", 7, 0},
		{"swap behind a swap", []step{swap("ab"), swap("c")}, "c", 2, 5},
		{"append behind a swap", []step{add("abc"), swap("x"), add("yz")}, "xyz", 6, 3},
		{"append behind a swap of nothing", []step{add("abc"), sync(), swap(""), add("yz")}, "yz", 3, 4},
		{"a swap makes room, what is appended fills it", []step{add("abcdef"), sync(), swap("u"), add("vwxyz")}, "uvwxyz", 6, 0},
		{"a swap of nothing makes room for all", []step{add("abcdef"), swap(""), add("uvwxyz")}, "uvwxyz", 13, 0},
		{"swaps with bytes between", []step{add("a"), swap("b"), add("c"), swap("d"), add("e")}, "de", 5, 4},
	})
}

// P13.1: one byte more than there is room for is refused, and changes nothing, whatever waits and lasts; what fits goes well behind it.
func TestFull(t *testing.T) {
	for _, x := range []struct {
		name          string
		steps         []step
		append, swaps string // what is one byte too much
	}{
		{"an empty disk", nil, "1234567", "1234567"},
		{"bytes that wait", []step{add("ab")}, "12345", "1234567"},
		{"bytes that last", []step{add("ab"), sync()}, "12345", "1234567"},
		{"both", []step{add("ab"), sync(), add("c")}, "1234", "1234567"},
		{"full of what waits", []step{add("abcdef")}, "1", "1234567"},
		{"full of what lasts", []step{add("abcdef"), sync()}, "1", "1234567"},
		{"full of both", []step{add("abc"), sync(), add("def")}, "1", "1234567"},
		{"a swap that waits", []step{add("abcdef"), sync(), swap("u")}, "123456", "1234567"},
		{"a swap that waits, and bytes behind it", []step{add("abcdef"), sync(), swap("u"), add("v")}, "12345", "1234567"},
		{"a swap that fills it", []step{swap("uvwxyz")}, "1", "1234567"},
		{"a swap of nothing", []step{add("abcdef"), swap("")}, "1234567", "1234567"},
		{"behind a crash that kept some", []step{add("abcdef"), crash(2)}, "12345", "1234567"},
		{"behind a crash that lost a swap", []step{add("abcdef"), sync(), swap(""), crash(0)}, "1", "1234567"},
	} {
		t.Run(x.name, func(t *testing.T) {
			d := madeBy(t, 6, x.steps...)
			refused(t, d, add(x.append))
			refused(t, d, swap(x.swaps))
			refused(t, d, add(x.append+strings.Repeat("9", api.MaxDisk)))
			refused(t, d, swap(x.swaps+strings.Repeat("9", api.MaxDisk)))
			crashes(t, 6, append(x.steps, add(x.append), swap(x.swaps)))
			read, waiting := string(d.Read()), d.Waiting()
			fits := x.append[1:]
			goes(t, d, add(fits))
			has(t, d, read+fits, waiting+len(fits), 0)
			goes(t, d, swap(x.swaps[1:]))
			has(t, d, x.swaps[1:], waiting+len(fits)+1, 0)
		})
	}
}

// P13.1: Append and Swap take nil and no bytes alike.
func TestNothing(t *testing.T) {
	for _, b := range [][]byte{nil, {}, make([]byte, 0, 9), []byte("abc")[:0]} {
		d := madeBy(t, 3, add("abc"), sync())
		if e := d.Append(b); e != api.OK {
			t.Errorf("Append = %d", e)
		}
		has(t, d, "abc", 0, 0)
		if e := d.Swap(b); e != api.OK {
			t.Errorf("Swap = %d", e)
		}
		has(t, d, "", 1, 3)
		if e := d.Append(b); e != api.OK {
			t.Errorf("Append = %d", e)
		}
		has(t, d, "", 1, 3)
		d.Crash(0)
		has(t, d, "abc", 0, 0)
	}
}

// P13.1: bytes may be any: each one, appended, swapped, and kept by crashes.
func TestAnyBytes(t *testing.T) {
	var all []byte
	for n := range 256 {
		all = append(all, byte(n))
	}
	text := string(all)
	crashes(t, 512, []step{add(text), sync(), add(text)})
	crashes(t, 512, []step{add(text), swap(text), add(text)})
	follows(t, 512, []step{add(text), add(text), add("x"), sync(), swap(text), add(text), crash(100)})
}

// P13.2: of units that wait a crash keeps the first: in the midst of an append, just ahead of a swap, just behind it, between two, and behind all.
func TestCrash(t *testing.T) {
	steps := []step{add("ab"), sync(), add("cde"), swap("wx"), add("yz"), swap(""), swap("m"), add("n")}
	kept := []string{"ab", "abc", "abcd", "abcde", "wx", "wxy", "wxyz", "", "m", "mn"}
	for keep := -2; keep < len(kept)+2; keep++ {
		want := kept[min(max(keep, 0), len(kept)-1)]
		d := madeBy(t, 5, steps...)
		has(t, d, "mn", len(kept)-1, 3)
		d.Crash(keep)
		has(t, d, want, 0, 5-len(want))
		d.Crash(math.MaxInt)
		has(t, d, want, 0, 5-len(want))
	}
	for keep, want := range map[int]string{math.MinInt: "ab", math.MinInt + 1: "ab", math.MaxInt: "mn", math.MaxInt - 1: "mn", 1 << 32: "mn", -1 << 32: "ab", 1<<32 + 1: "mn"} {
		d := madeBy(t, 5, steps...)
		d.Crash(keep)
		has(t, d, want, 0, 5-len(want))
	}
}

// P13.2: what a crash lost doesn't come back, whatever is written behind it; and a disk goes on as one that never had it.
func TestBehindCrash(t *testing.T) {
	run(t, 6, []line{
		{"append", []step{add("ab"), sync(), add("cd"), crash(1), add("x")}, "abcx", 1, 2},
		{"append, none kept", []step{add("ab"), crash(0), add("x")}, "x", 1, 5},
		{"append of what there is room for again", []step{add("abcdef"), crash(1), add("vwxyz")}, "avwxyz", 5, 0},
		{"swap that was lost", []step{add("ab"), sync(), swap("x"), crash(0), add("c")}, "abc", 1, 3},
		{"swap that was kept", []step{add("ab"), sync(), swap("x"), crash(1), add("c")}, "xc", 1, 4},
		{"swap behind a crash", []step{add("ab"), crash(1), swap("x"), crash(1)}, "x", 0, 5},
		{"crash and crash, none waits", []step{add("ab"), crash(1), crash(0), crash(5)}, "a", 0, 5},
		{"crash and sync", []step{add("ab"), crash(1), sync(), sync()}, "a", 0, 5},
		{"sync and crash", []step{add("ab"), sync(), crash(0), crash(-1)}, "ab", 0, 4},
		{"sync, crash, and more", []step{add("ab"), sync(), crash(0), add("c"), crash(0), add("d")}, "abd", 1, 3},
		{"sync and sync", []step{swap("ab"), sync(), sync()}, "ab", 0, 4},
		{"sync and crash of an empty disk", []step{sync(), crash(1), sync(), crash(math.MaxInt)}, "", 0, 6},
		{"sync of a swap of nothing", []step{add("ab"), sync(), swap(""), sync(), crash(0)}, "", 0, 6},
	})
}

// P13.2: Waiting and Room behind each step, written out.
func TestWaitingAndRoom(t *testing.T) {
	d := made(t, 6)
	for _, x := range []struct {
		do            step
		waiting, room int
	}{
		{add("ab"), 2, 4}, {add(""), 2, 4}, {swap("wxyz"), 3, 2}, {add("1"), 4, 1}, {sync(), 0, 1}, {add("2"), 1, 0}, {swap(""), 2, 6},
		{swap(""), 3, 6}, {add("abcdef"), 9, 0}, {crash(8), 0, 1}, {add("g"), 1, 0}, {crash(0), 0, 1}, {swap("q"), 1, 5}, {crash(0), 0, 1}, {swap("q"), 1, 5}, {crash(1), 0, 5},
	} {
		goes(t, d, x.do)
		if d.Waiting() != x.waiting || d.Room() != x.room {
			t.Errorf("%s: %d, %d, want %d, %d", x.do.name, d.Waiting(), d.Room(), x.waiting, x.room)
		}
	}
}

// few are steps of all kinds for a disk of 3 bytes, with some that it must refuse.
func few() []step {
	return []step{add(""), add("a"), add("bc"), add("defg"), swap(""), swap("h"), swap("ijk"), swap("lmno"), sync(), crash(-1), crash(1), crash(2)}
}

// P13.1, P13.2: all ways through four of these steps.
func TestAllShortWays(t *testing.T) {
	for _, a := range few() {
		for _, b := range few() {
			for _, c := range few() {
				for _, d := range few() {
					follows(t, 3, []step{a, b, c, d})
				}
			}
		}
	}
}

// P13.2, P13.3: behind all ways through three of them, one more of a kind that waits, a crash of each number of units.
func TestCrashesOfAllShortWays(t *testing.T) {
	for _, a := range few() {
		for _, b := range few() {
			for _, c := range few() {
				crashes(t, 3, []step{a, b, c, add("p")})
				crashes(t, 3, []step{a, b, c, swap("q"), add("r")})
			}
		}
	}
}

// text is some bytes by chance, up to so many; chance is a step by chance, for a disk of so many bytes.
func text(r *rand.Rand, most int) string {
	b := make([]byte, r.Intn(most+1))
	r.Read(b)
	return string(b)
}
func chance(r *rand.Rand, size int) step {
	switch r.Intn(10) {
	case 0, 1, 2:
		return add(text(r, size+1))
	case 3, 4, 5:
		return add(text(r, size/4))
	case 6:
		return swap(text(r, size+1))
	case 7:
		return swap(text(r, size/4))
	case 8:
		return sync()
	}
	return crash(r.Intn(size+4) - 2)
}

// ways are many steps by chance.
func ways(r *rand.Rand, size, count int) []step {
	var l []step
	for range count {
		l = append(l, chance(r, size))
	}
	return l
}

// P13.1, P13.2: many steps by chance, on disks of many sizes, the greatest too.
func TestByChance(t *testing.T) {
	r := rand.New(rand.NewSource(13))
	for range 1500 {
		size := 1 + r.Intn(40)
		follows(t, size, ways(r, size, 60))
	}
	for range 3 {
		follows(t, api.MaxDisk, ways(r, api.MaxDisk, 15))
	}
}

// P13.3: what was synced is there behind any crash, at the beginning, up to the next swap that lasts.
func TestSyncedStays(t *testing.T) {
	r := rand.New(rand.NewSource(14))
	for range 3000 {
		size := 4 + r.Intn(20)
		head := append(ways(r, size, 10), sync())
		synced := string(madeBy(t, size, head...).Read())
		m := &told{size: size}
		for _, s := range head {
			s.told(m)
		}
		tail := []step{add(text(r, 4)), add(text(r, 4)), swap(text(r, size)), add(text(r, 4))}
		r.Shuffle(len(tail), func(i, k int) { tail[i], tail[k] = tail[k], tail[i] })
		for _, s := range tail {
			s.told(m)
		}
		swapAt := slices.IndexFunc(m.waits, func(u unit) bool { return u.swap })
		for keep := range m.waiting() + 1 {
			d := madeBy(t, size, append(head, tail...)...)
			d.Crash(keep)
			read := string(d.Read())
			if keep <= swapAt && !strings.HasPrefix(read, synced) {
				t.Fatalf("%d of %d units of %q: %q, but %q was synced", keep, m.waiting(), names(tail), read, synced)
			}
			if keep > swapAt && !strings.HasPrefix(read, m.waits[swapAt].text) {
				t.Fatalf("%d of %d units of %q: %q, but %q was swapped", keep, m.waiting(), names(tail), read, m.waits[swapAt].text)
			}
		}
	}
}

// P13.3: behind a crash a disk holds a beginning of what was to be: just what it held at some point, byte by byte, on its way there.
func TestBeginning(t *testing.T) {
	r := rand.New(rand.NewSource(15))
	for range 2000 {
		size := 2 + r.Intn(20)
		head := append(ways(r, size, 8), sync())
		var tail []step
		slow := madeBy(t, size, head...)
		held := []string{string(slow.Read())}
		for range 4 {
			s := add(text(r, 5))
			if r.Intn(3) == 0 {
				s = swap(text(r, size))
			}
			before, units := string(slow.Read()), slow.Waiting()
			if s.disk(slow) != api.OK {
				continue
			}
			tail = append(tail, s)
			after := string(slow.Read())
			for n := slow.Waiting() - units - 1; n >= 0; n-- {
				held = append(held, after[:len(after)-n])
			}
			if strings.HasPrefix(s.name, "append") && !strings.HasPrefix(after, before) {
				t.Fatalf("%q: from %q to %q", s.name, before, after)
			}
		}
		for keep, want := range held {
			d := madeBy(t, size, append(head, tail...)...)
			d.Crash(keep)
			has(t, d, want, 0, size-len(want))
		}
	}
}

// P13.3: Crash of all that waits, or of more, is Sync: what follows is the same.
func TestCrashOfAllIsSync(t *testing.T) {
	r := rand.New(rand.NewSource(16))
	for range 1000 {
		size := 1 + r.Intn(20)
		head, tail := ways(r, size, 12), ways(r, size, 12)
		synced := madeBy(t, size, head...)
		all := madeBy(t, size, head...)
		more := madeBy(t, size, head...)
		goes(t, synced, sync())
		all.Crash(all.Waiting())
		more.Crash(more.Waiting() + 1 + r.Intn(1000))
		for _, d := range []*Disk{all, more} {
			has(t, d, string(synced.Read()), 0, synced.Room())
		}
		for _, s := range tail {
			want := s.disk(synced)
			for _, d := range []*Disk{all, more} {
				if got := s.disk(d); got != want {
					t.Fatalf("%q: %d, want %d", s.name, got, want)
				}
				has(t, d, string(synced.Read()), synced.Waiting(), synced.Room())
			}
		}
	}
}

// P13.3: two crashes, one behind the other, keep a beginning of a beginning: the second one finds nothing that waits.
func TestCrashTwice(t *testing.T) {
	r := rand.New(rand.NewSource(17))
	for range 1000 {
		size := 1 + r.Intn(20)
		d := madeBy(t, size, ways(r, size, 12)...)
		d.Crash(r.Intn(d.Waiting() + 1))
		read := string(d.Read())
		for _, keep := range []int{0, 1, math.MinInt, math.MaxInt} {
			d.Crash(keep)
			has(t, d, read, 0, size-len(read))
		}
	}
}

// scribble writes over bytes and their spare room.
func scribble(b []byte) {
	for i := range b[:cap(b)] {
		b[:cap(b)][i] = '#'
	}
}

// roomy is bytes with spare room behind them, which are easy to tell; untouched: they are as they were, and so is the room.
func roomy(text string) []byte { return []byte(text + "spare room")[:len(text)] }
func untouched(b []byte, text string) bool {
	return string(b) == text && string(b[:len(text)+10]) == text+"spare room"
}

// P13.1: what was handed over is the disk's own: it isn't changed, nor its spare room, and to write over it changes nothing.
func TestHandedOver(t *testing.T) {
	d := made(t, 12)
	first, second, third := roomy("abc"), roomy("de"), roomy("fg")
	puts := []struct {
		b    []byte
		put  func(b []byte) api.Errno
		text string
	}{{first, d.Swap, "abc"}, {second, d.Append, "de"}, {third, d.Append, "fg"}}
	for _, x := range puts {
		if e := x.put(x.b); e != api.OK {
			t.Fatal(e)
		}
	}
	has(t, d, "abcdefg", 5, 5)
	for _, x := range puts {
		if !untouched(x.b, x.text) {
			t.Errorf("%q is now %q", x.text, x.b[:len(x.text)+10])
		}
		scribble(x.b)
		has(t, d, "abcdefg", 5, 5)
	}
	d.Crash(4)
	has(t, d, "abcdef", 0, 6)
}

// P13.1: the same bytes, handed over again and again and changed between.
func TestHandedOverAgain(t *testing.T) {
	d, b := made(t, 9), []byte("a")
	want := ""
	for i := range 9 {
		b[0] = byte('a' + i)
		want += string(b)
		if e := d.Append(b); e != api.OK {
			t.Fatal(e)
		}
	}
	scribble(b)
	has(t, d, want, 9, 0)
	b = []byte("swap")
	d.Swap(b)
	scribble(b)
	d.Sync()
	has(t, d, "swap", 0, 5)
	refusedBytes := roomy("0123456789")
	if d.Append(refusedBytes) != api.ErrFull || d.Swap(refusedBytes) != api.ErrFull || !untouched(refusedBytes, "0123456789") {
		t.Error("what is refused is changed")
	}
}

// P13.1: what was handed out is apart, its spare room too: of what lasts, of what waits, of a swap, and of each Read.
func TestHandedOut(t *testing.T) {
	for _, x := range []struct {
		name  string
		steps []step
		read  string
	}{
		{"lasts", []step{add("abc"), sync()}, "abc"},
		{"waits", []step{add("ab"), add("c")}, "abc"},
		{"both", []step{add("ab"), sync(), add("c")}, "abc"},
		{"a swap that waits", []step{add("zz"), sync(), swap("abc")}, "abc"},
		{"a swap that lasts", []step{swap("abc"), sync()}, "abc"},
		{"a swap, and bytes behind it", []step{swap("ab"), add("c")}, "abc"},
		{"a swap, and bytes behind it, kept", []step{swap("ab"), add("cd"), crash(2)}, "abc"},
		{"a swap of nothing", []step{add("ab"), swap(""), add("abc")}, "abc"},
	} {
		t.Run(x.name, func(t *testing.T) {
			d := madeBy(t, 100, x.steps...)
			waiting := d.Waiting()
			first, second := d.Read(), d.Read()
			scribble(first)
			if string(second) != x.read {
				t.Errorf("the second Read is now %q", second)
			}
			has(t, d, x.read, waiting, 97)
			goes(t, d, add("d"))
			scribble(append(second, "wxyz"...))
			scribble(second)
			has(t, d, x.read+"d", waiting+1, 96)
			third := d.Read()
			goes(t, d, sync())
			scribble(third)
			has(t, d, x.read+"d", 0, 96)
			fourth := d.Read()
			goes(t, d, add("ef"))
			goes(t, d, sync())
			goes(t, d, swap("123456789"))
			goes(t, d, sync())
			if string(fourth) != x.read+"d" {
				t.Errorf("what was read is now %q", fourth)
			}
		})
	}
}

// P13.1, P13.2: disks are independent of one another, though they took the same bytes.
func TestApart(t *testing.T) {
	b := []byte("abc")
	one, other := made(t, 10), made(t, 10)
	for _, d := range []*Disk{one, other} {
		d.Append(b)
		d.Sync()
		d.Swap(b)
	}
	one.Append([]byte("d"))
	one.Crash(2)
	has(t, one, "abcd", 0, 6)
	has(t, other, "abc", 1, 7)
	scribble(one.Read())
	one.Swap(nil)
	one.Sync()
	other.Crash(0)
	has(t, one, "", 0, 10)
	has(t, other, "abc", 0, 7)
	// What one disk tells may be handed to another.
	one.Swap(other.Read())
	other.Append(other.Read())
	has(t, one, "abc", 1, 7)
	has(t, other, "abcabc", 3, 4)
}

// P13.1: the same calls answer the same, each time that they are made, and no Read changes what follows.
func TestSameAgain(t *testing.T) {
	r := rand.New(rand.NewSource(18))
	for range 300 {
		l := ways(r, 12, 30)
		asked, left := made(t, 12), made(t, 12)
		for _, s := range l {
			for range r.Intn(4) {
				scribble(asked.Read())
			}
			if got, want := s.disk(asked), s.disk(left); got != want {
				t.Fatalf("%q: %d and %d", s.name, got, want)
			}
		}
		has(t, asked, string(left.Read()), left.Waiting(), left.Room())
	}
}

// P7: what waits is no more than what was written: where nothing is written any number of times, nothing is kept.
func TestNothingIsKept(t *testing.T) {
	d := made(t, 3)
	for range 1000 {
		goes(t, d, add(""))
		refused(t, d, add("abcd"))
		refused(t, d, swap("abcd"))
	}
	if len(d.waits) != 0 {
		t.Errorf("%d writes wait", len(d.waits))
	}
	goes(t, d, add("a"))
	goes(t, d, swap("b"))
	goes(t, d, sync())
	if len(d.waits) != 0 {
		t.Errorf("%d writes wait behind Sync", len(d.waits))
	}
}

// P7: a disk's bounds, at the greatest: byte by byte, at once, and many swaps that wait.
func TestGreatest(t *testing.T) {
	d, want := made(t, api.MaxDisk), strings.Repeat("0123456789abcdef", api.MaxDisk/16)
	for i := range want {
		if e := d.Append([]byte{want[i]}); e != api.OK || d.Waiting() != i+1 || d.Room() != api.MaxDisk-i-1 {
			t.Fatalf("%d: %d", i, e)
		}
	}
	refused(t, d, add("x"))
	has(t, d, want, api.MaxDisk, 0)
	d.Crash(api.MaxDisk - 1)
	has(t, d, want[:api.MaxDisk-1], 0, 1)
	for i := range 2000 {
		goes(t, d, swap(want[i:]))
	}
	has(t, d, want[1999:], 2000, 1999)
	d.Crash(1000)
	has(t, d, want[999:], 0, 999)
}
