package log

import (
	"encoding/binary"
	"hash/crc32"
	"math"
	"math/rand"
	"slices"
	"strings"
	"testing"

	"murmur/api"
	"murmur/disk"
)

// framedText is a body's frame by the document's words: a version, a length, the body, a sum.
func framedText(body string) string {
	ahead := "\x01"
	n := len(body)
	for ; n >= 128; n /= 128 {
		ahead += string([]byte{byte(n%128 + 128)})
	}
	ahead += string([]byte{byte(n)}) + body
	return string(binary.BigEndian.AppendUint32([]byte(ahead), crc32.ChecksumIEEE([]byte(ahead))))
}

// framesText are bodies' frames, one behind the other.
func framesText(bodies ...string) string {
	all := ""
	for _, body := range bodies {
		all += framedText(body)
	}
	return all
}

// bodyAt is the body of the frame that a text begins with: its frame by the document's words is that beginning. A length that may be has one byte or two.
func bodyAt(text string) (string, bool) {
	for _, head := range []int{2, 3} {
		if len(text) < head {
			continue
		}
		n := int(text[1] % 128)
		if head == 3 {
			n += int(text[2]) * 128
		}
		if n > 4096 || head+n > len(text) {
			continue
		}
		if body := text[head : head+n]; strings.HasPrefix(text, framedText(body)) {
			return body, true
		}
	}
	return "", false
}

// recordsOf are the bodies of the frames that a text begins with, and whether more stands behind them.
func recordsOf(text string) (l []string, torn bool) {
	for {
		body, ok := bodyAt(text)
		if !ok {
			return l, text != ""
		}
		l = append(l, body)
		text = text[len(framedText(body)):]
	}
}

// unit is one that waits on a disk, by the words of layer 13: a byte that is appended, or a swap, whole.
type unit struct {
	swap bool
	text string
}

// told is a disk, and a log on it, by the document's words.
type told struct {
	size  int
	lasts string
	waits []unit
}

// after is what is there, if so many units were done; read is all.
func (m *told) after(keep int) string {
	there := m.lasts
	for i, u := range m.waits {
		if i >= keep {
			break
		}
		if u.swap {
			there = ""
		}
		there += u.text
	}
	return there
}
func (m *told) read() string { return m.after(len(m.waits)) }

// append, swap, sync and crash are steps of layer 13.
func (m *told) append(text string) api.Errno {
	if len(m.read()+text) > m.size {
		return api.ErrFull
	}
	for i := range len(text) {
		m.waits = append(m.waits, unit{false, text[i : i+1]})
	}
	return api.OK
}
func (m *told) swap(text string) api.Errno {
	if len(text) > m.size {
		return api.ErrFull
	}
	m.waits = append(m.waits, unit{true, text})
	return api.OK
}
func (m *told) sync() api.Errno {
	m.lasts, m.waits = m.read(), nil
	return api.OK
}
func (m *told) crash(keep int) api.Errno {
	m.lasts, m.waits = m.after(keep), nil
	return api.OK
}

// synced is what is answered by one of these that is to last at once.
func (m *told) synced(e api.Errno) api.Errno {
	if e == api.OK {
		m.sync()
	}
	return e
}

// write, mend and rewrite are this layer's.
func (m *told) write(body string) api.Errno {
	if len(body) > 4096 {
		return api.ErrLong
	}
	return m.synced(m.append(framedText(body)))
}
func (m *told) mend() api.Errno {
	l, torn := recordsOf(m.read())
	if !torn {
		return api.OK
	}
	return m.synced(m.swap(framesText(l...)))
}
func (m *told) rewrite(l []string) api.Errno {
	if slices.ContainsFunc(l, func(body string) bool { return len(body) > 4096 }) {
		return api.ErrLong
	}
	return m.synced(m.swap(framesText(l...)))
}

// step is one, of a log and of a told one alike.
type step struct {
	name string
	log  func(d *disk.Disk) api.Errno
	told func(m *told) api.Errno
}

// write, mend and rewrite are steps of this layer; add, swap, sync and crash of the one below.
func write(body string) step {
	return step{"write " + body, func(d *disk.Disk) api.Errno { return Write(d, []byte(body)) }, func(m *told) api.Errno { return m.write(body) }}
}
func mend() step { return step{"mend", Mend, (*told).mend} }
func rewrite(l ...string) step {
	return step{"rewrite " + strings.Join(l, "|"), func(d *disk.Disk) api.Errno { return Rewrite(d, lines(l)) }, func(m *told) api.Errno { return m.rewrite(l) }}
}
func add(text string) step {
	return step{"append " + text, func(d *disk.Disk) api.Errno { return d.Append([]byte(text)) }, func(m *told) api.Errno { return m.append(text) }}
}
func swap(text string) step {
	return step{"swap " + text, func(d *disk.Disk) api.Errno { return d.Swap([]byte(text)) }, func(m *told) api.Errno { return m.swap(text) }}
}
func sync() step { return step{"sync", (*disk.Disk).Sync, (*told).sync} }
func crash(keep int) step {
	do := func(d *disk.Disk) api.Errno {
		d.Crash(keep)
		return api.OK
	}
	return step{"crash", do, func(m *told) api.Errno { return m.crash(keep) }}
}

// names are those of steps; lines are texts as bytes; texts are bytes as texts.
func names(l []step) string {
	var out []string
	for _, s := range l {
		out = append(out, s.name[:min(len(s.name), 40)])
	}
	return strings.Join(out, ", ")
}
func lines(l []string) [][]byte {
	var out [][]byte
	for _, text := range l {
		out = append(out, []byte(text))
	}
	return out
}
func texts(l [][]byte) []string {
	var out []string
	for _, b := range l {
		out = append(out, string(b))
	}
	return out
}

// made is an empty disk of so many bytes; madeBy is one that took steps, whatever they answered.
func made(t *testing.T, size int) *disk.Disk {
	t.Helper()
	d, e := disk.New(size)
	if e != api.OK {
		t.Fatalf("disk.New(%d) = %d", size, e)
	}
	return d
}
func madeBy(t *testing.T, size int, l ...step) *disk.Disk {
	t.Helper()
	d := made(t, size)
	for _, s := range l {
		s.log(d)
	}
	return d
}

// toldBy is a told one that took steps.
func toldBy(size int, l ...step) *told {
	m := &told{size: size}
	for _, s := range l {
		s.told(m)
	}
	return m
}

// holds asks for what is on a disk, and for the records that Read tells of it, twice.
func holds(t *testing.T, d *disk.Disk, text string, want []string, torn bool) {
	t.Helper()
	for range 2 {
		if got := string(d.Read()); got != text {
			t.Fatalf("there is %.80q, want %.80q", got, text)
		}
		if l, got := Read(d); !slices.Equal(texts(l), want) || got != torn {
			t.Fatalf("Read = %.80q, %t, want %.80q, %t", l, got, want, torn)
		}
	}
}

// lasts is holds, of a disk on which nothing waits: behind a crash the same is there.
func lasts(t *testing.T, d *disk.Disk, text string, want []string, torn bool) {
	t.Helper()
	if d.Waiting() != 0 {
		t.Fatalf("%d units wait", d.Waiting())
	}
	holds(t, d, text, want, torn)
	d.Crash(0)
	holds(t, d, text, want, torn)
}

// follows has a log take steps, and asks behind each for what the document says.
func follows(t *testing.T, size int, l []step) {
	t.Helper()
	d, m := made(t, size), &told{size: size}
	for i, s := range l {
		if got, want := s.log(d), s.told(m); got != want {
			t.Fatalf("%q: %d, want %d", names(l[:i+1]), got, want)
		}
		if string(d.Read()) != m.read() || d.Waiting() != len(m.waits) || d.Room() != size-len(m.read()) {
			t.Fatalf("%q: %q, %d, want %q, %d", names(l[:i+1]), d.Read(), d.Waiting(), m.read(), len(m.waits))
		}
		want, wantTorn := recordsOf(m.read())
		if got, torn := Read(d); !slices.Equal(texts(got), want) || torn != wantTorn {
			t.Fatalf("%q: Read = %q, %t, want %q, %t", names(l[:i+1]), got, torn, want, wantTorn)
		}
	}
}

// crashes asks what is there behind steps and a crash, for each number of units.
func crashes(t *testing.T, size int, l []step) {
	t.Helper()
	m := toldBy(size, l...)
	for keep := -1; keep < len(m.waits)+2; keep++ {
		d := madeBy(t, size, l...)
		d.Crash(keep)
		want := m.after(keep)
		records, torn := recordsOf(want)
		lasts(t, d, want, records, torn)
	}
}

// goes has a step go well.
func goes(t *testing.T, d *disk.Disk, s step) {
	t.Helper()
	if e := s.log(d); e != api.OK {
		t.Fatalf("%.60q: %d", s.name, e)
	}
}

// refused: behind steps one more is answered by that error, and changes nothing: what is there, what lasts, and what each crash would leave.
func refused(t *testing.T, size int, head []step, s step, want api.Errno) {
	t.Helper()
	if got := s.log(madeBy(t, size, head...)); got != want {
		t.Fatalf("%q, %.60q: %d, want %d", names(head), s.name, got, want)
	}
	plain, both := madeBy(t, size, head...), append(slices.Clone(head), s)
	for keep := -1; keep < plain.Waiting()+2; keep++ {
		d, like := madeBy(t, size, both...), madeBy(t, size, head...)
		if string(d.Read()) != string(like.Read()) || d.Waiting() != like.Waiting() || d.Room() != like.Room() {
			t.Fatalf("%q, %.60q: %.60q, %d, want %.60q, %d", names(head), s.name, d.Read(), d.Waiting(), like.Read(), like.Waiting())
		}
		d.Crash(keep)
		like.Crash(keep)
		if string(d.Read()) != string(like.Read()) {
			t.Fatalf("%q, %.60q: %d units of it: %.60q, want %.60q", names(head), s.name, keep, d.Read(), like.Read())
		}
	}
}

// long is a body that is too long; longest is one that isn't, by no byte.
func long() string    { return strings.Repeat("l", 4097) }
func longest() string { return strings.Repeat("m", 4096) }

// The document's examples: a, b, and a third of which the disk loses half; mended, what is written next stands behind them.
func TestExamples(t *testing.T) {
	d := made(t, 100)
	goes(t, d, write("a"))
	goes(t, d, write("b"))
	third := framedText("third")
	goes(t, d, add(third))
	d.Crash(len(third) / 2)
	ab := framesText("a", "b")
	lasts(t, d, ab+third[:len(third)/2], []string{"a", "b"}, true)
	goes(t, d, mend())
	lasts(t, d, ab, []string{"a", "b"}, false)
	goes(t, d, write("c"))
	lasts(t, d, ab+framedText("c"), []string{"a", "b", "c"}, false)
}

// P14.1, P14.2: of a nil disk each that writes answers ErrNil, whatever else is wrong, and Read nothing.
func TestNil(t *testing.T) {
	for range 2 {
		for _, body := range []string{"", "a", longest(), long(), strings.Repeat("x", api.MaxDisk+1)} {
			if e := Write(nil, []byte(body)); e != api.ErrNil {
				t.Errorf("Write of %d bytes = %d", len(body), e)
			}
			for _, l := range [][]string{{body}, {"a", body}, {body, "a"}} {
				if e := Rewrite(nil, lines(l)); e != api.ErrNil {
					t.Errorf("Rewrite of %.40q = %d", l, e)
				}
			}
		}
		if Write(nil, nil) != api.ErrNil || Rewrite(nil, nil) != api.ErrNil || Rewrite(nil, [][]byte{}) != api.ErrNil || Mend(nil) != api.ErrNil {
			t.Error("a nil disk is no error")
		}
		if l, torn := Read(nil); len(l) != 0 || torn {
			t.Errorf("Read = %q, %t", l, torn)
		}
	}
}

// P1: a disk that layer 13's New didn't make has no room, but takes what needs none.
func TestNotMade(t *testing.T) {
	d := &disk.Disk{}
	for range 2 {
		holds(t, d, "", nil, false)
		if Write(d, nil) != api.ErrFull || Write(d, []byte("a")) != api.ErrFull || Write(d, []byte(long())) != api.ErrLong {
			t.Error("Write")
		}
		if Mend(d) != api.OK || Rewrite(d, nil) != api.OK || Rewrite(d, [][]byte{nil}) != api.ErrFull || Rewrite(d, lines([]string{"a", long()})) != api.ErrLong {
			t.Error("Mend, Rewrite")
		}
		lasts(t, d, "", nil, false)
	}
}

// P14.1: what is written stands behind what was, as its frame, lasts, and is read: bodies of nothing, of nil, of one byte, of the most bytes, and such as look like frames.
func TestWrite(t *testing.T) {
	d := made(t, api.MaxDisk)
	there := ""
	var want []string
	for _, body := range [][]byte{nil, {}, make([]byte, 0, 9), {0}, {1}, {255}, []byte("ordinary"), []byte(framedText("in")), []byte(framedText("in")[:5]), []byte("\x01\x00"), []byte(strings.Repeat("x", 127)), []byte(strings.Repeat("y", 128)), []byte(longest()), nil, []byte(longest())} {
		if e := Write(d, body); e != api.OK {
			t.Fatalf("Write of %d bytes = %d", len(body), e)
		}
		there += framedText(string(body))
		want = append(want, string(body))
		lasts(t, d, there, want, false)
		if d.Room() != api.MaxDisk-len(there) {
			t.Fatalf("Room = %d behind %d bytes", d.Room(), len(there))
		}
	}
}

// P14.1: frames written out, so that no reckoning of this test stands between.
func TestWriteWrittenOut(t *testing.T) {
	d := made(t, 14)
	goes(t, d, write(""))
	lasts(t, d, "\x01\x00\x58\xc2\x23\xbe", []string{""}, false)
	goes(t, d, write("hi"))
	lasts(t, d, "\x01\x00\x58\xc2\x23\xbe"+"\x01\x02hi\x03\x36\x54\x44", []string{"", "hi"}, false)
}

// P14.1: a body of each length up to the most, alone on a disk that has just the room for it, and on one that has a byte less.
func TestWriteOfEachLength(t *testing.T) {
	all := strings.Repeat("0123456789abcde", 300)
	for n := range api.MaxBody + 1 {
		// All lengths of some hundred, and each hundredth: the others are alike.
		if n > 300 && n%101 != 0 && n < api.MaxBody-2 {
			continue
		}
		body := all[:n]
		f := framedText(body)
		d := made(t, len(f))
		goes(t, d, write(body))
		lasts(t, d, f, []string{body}, false)
		refused(t, len(f)-1, nil, write(body), api.ErrFull)
	}
}

// P14.1: what is too long is that, ahead of a disk that has no room; both change nothing.
func TestWriteRefused(t *testing.T) {
	full := []step{write("abcdef"), write("gh")} // 20 bytes
	for _, x := range []struct {
		name string
		size int
		head []step
		body string
		want api.Errno
	}{
		{"too long for a body", api.MaxDisk, nil, long(), api.ErrLong},
		{"much too long", api.MaxDisk, []step{write("a")}, strings.Repeat("x", 5*api.MaxDisk), api.ErrLong},
		{"too long, and no room at all", 1, nil, long(), api.ErrLong},
		{"too long, on a full disk", 20, full, long(), api.ErrLong},
		{"too long, where some wait", 30, append(full, add("xyz")), long(), api.ErrLong},
		{"no room for any frame", 1, nil, "", api.ErrFull},
		{"one byte too few for nothing", 5, nil, "", api.ErrFull},
		{"a full disk", 20, full, "", api.ErrFull},
		{"one byte too few behind others", 27, full, "ab", api.ErrFull},
		{"one byte too few behind what waits", 30, append(full, add("xyz")), "ab", api.ErrFull},
		{"one byte too few behind a swap that waits", 10, []step{write("abcd"), swap("xyz")}, "ab", api.ErrFull},
		{"full of what waits", 3, []step{add("xyz")}, "", api.ErrFull},
		{"full of what is torn", 7, []step{add("\x01\x02ab..."), sync()}, "", api.ErrFull},
		{"the longest, where there is room for a byte less", 4102, nil, longest(), api.ErrFull},
	} {
		t.Run(x.name, func(t *testing.T) {
			refused(t, x.size, x.head, write(x.body), x.want)
			follows(t, x.size, append(x.head, write(x.body), mend(), write("")))
		})
	}
}

// P14.1: just what there is room for is written: behind others, behind what waits, and where a swap makes room.
func TestWriteFits(t *testing.T) {
	for _, x := range []struct {
		name  string
		size  int
		head  []step
		body  string
		there string
	}{
		{"nothing", 6, nil, "", framedText("")},
		{"the longest", 4103, nil, longest(), framedText(longest())},
		{"behind others", 28, []step{write("abcdef"), write("gh")}, "ab", framesText("abcdef", "gh", "ab")},
		{"behind what waits", 16, []step{add(framedText("xy"))}, "ab", framesText("xy", "ab")},
		{"behind a swap that waits", 16, []step{write("abcdefgh"), swap(framedText("xy"))}, "ab", framesText("xy", "ab")},
	} {
		t.Run(x.name, func(t *testing.T) {
			d := madeBy(t, x.size, x.head...)
			goes(t, d, write(x.body))
			want, _ := recordsOf(x.there)
			lasts(t, d, x.there, want, false)
			if d.Room() != 0 {
				t.Errorf("Room = %d", d.Room())
			}
			refused(t, x.size, append(x.head, write(x.body)), write(""), api.ErrFull)
		})
	}
}

// heads are frames, some and none, that stand ahead of what is torn.
func heads() [][]string {
	return [][]string{nil, {""}, {"a"}, {"a", "bc"}, {"", "", ""}, {strings.Repeat("x", 200), "y"}}
}

// torns are bytes that are no frame, nor begin with one: of all that a frame can lack, and a frame cut at each of its bytes.
func torns() []string {
	l := []string{"\x00", "\x02", "\xff", "\x01", "\x01\x80", "\x01\xff\xff\xff\xff\xff", "\x01\x80\x00", "\x01\x81\x20", "\x01\x02h", "\x01\x00\x00\x00\x00\x00", "x" + framedText("hi"), "\x02" + framedText("")[1:], "\x01\x00\x58\xc2\x23\xbf" + framedText("hi")}
	f := framedText("hello")
	for n := 1; n < len(f); n++ {
		l = append(l, f[:n])
	}
	return append(l, framedText(long()), framedText(longest())[:4102])
}

// onDisk is a disk on which a text lasts, with so much room behind it.
func onDisk(t *testing.T, text string, room int) *disk.Disk {
	t.Helper()
	return madeBy(t, max(1, len(text)+room), add(text), sync())
}

// P14.1: Read of a disk with nothing on it, with frames alone, with bytes alone that are none, and with such behind frames; of what waits as of what lasts.
func TestRead(t *testing.T) {
	for _, room := range []int{0, 1, 100} {
		for _, head := range heads() {
			lasts(t, onDisk(t, framesText(head...), room), framesText(head...), head, false)
			for _, tail := range torns() {
				text := framesText(head...) + tail
				lasts(t, onDisk(t, text, room), text, head, true)
				waits := madeBy(t, len(text)+room, add(text))
				holds(t, waits, text, head, true)
				both := madeBy(t, len(text)+room, add(text[:len(text)/2]), sync(), add(text[len(text)/2:]))
				holds(t, both, text, head, true)
			}
		}
	}
}

// P14.1: one byte turned, but of a length, in the first, a middle and the last frame: those ahead of it are read, and no more.
func TestReadTurned(t *testing.T) {
	want := []string{"abc", "", "defgh"}
	text := framesText(want...)
	at := 0
	for i, body := range want {
		for k := range framedText(body) {
			if k == 1 {
				continue
			}
			for _, turn := range []byte{1, 0x80, 0xff} {
				b := []byte(text)
				b[at+k] ^= turn
				d := onDisk(t, string(b), 0)
				lasts(t, d, string(b), want[:i], true)
				goes(t, d, mend())
				lasts(t, d, framesText(want[:i]...), want[:i], false)
			}
		}
		at += len(framedText(body))
	}
}

// P14.1: very many records are read, as many as a disk holds.
func TestReadMany(t *testing.T) {
	const most = api.MaxDisk / 6
	d := made(t, api.MaxDisk)
	for n := range most {
		if e := Write(d, nil); e != api.OK {
			t.Fatalf("Write %d = %d", n, e)
		}
	}
	if e := Write(d, nil); e != api.ErrFull {
		t.Errorf("Write = %d", e)
	}
	lasts(t, d, strings.Repeat(framedText(""), most), make([]string, most), false)
}

// P14.2: Mend takes away what is torn, also where the disk is full, and twice is once; what is written next is read behind the others.
func TestMend(t *testing.T) {
	for _, room := range []int{0, 1, 100} {
		for _, head := range heads() {
			frames := framesText(head...)
			for _, tail := range torns() {
				d := onDisk(t, frames+tail, room)
				all := d.Room() + len(frames+tail)
				for range 2 {
					goes(t, d, mend())
					lasts(t, d, frames, head, false)
					if d.Room() != all-len(frames) {
						t.Fatalf("Room = %d of %d behind %d bytes", d.Room(), all, len(frames))
					}
				}
				if next := strings.Repeat("n", min(max(len(tail)+room-7, 0), 100)); len(framedText(next)) <= d.Room() {
					goes(t, d, write(next))
					lasts(t, d, frames+framedText(next), append(slices.Clone(head), next), false)
				}
			}
		}
	}
}

// P14.2: where nothing is torn, Mend does nothing: what waits waits on, and may still be lost.
func TestMendOfWhole(t *testing.T) {
	for _, head := range [][]step{
		nil,
		{write("a"), write("")},
		{add(framedText("a"))},
		{write("a"), add(framedText("b"))},
		{write("a"), swap(framesText("b", "c"))},
		{write("a"), swap("")},
		{write("a"), add("torn"), swap("")},
		{write("a"), add("torn"), sync(), swap(framedText("b")), add(framedText("c"))},
		{add("torn"), sync(), swap(framedText("b"))},
		{write("abcdefghijklmnopqrstuvwxyz012345678")},
	} {
		refused(t, 41, head, mend(), api.OK)
		refused(t, 41, append(head, mend()), mend(), api.OK)
	}
}

// P14.2: where something is torn, and writes wait, whole and torn ones, Mend has what Read tells last.
func TestMendWhereSomeWait(t *testing.T) {
	for _, x := range []struct {
		name string
		head []step
		want []string
	}{
		{"torn, and it waits", []step{write("a"), add("torn")}, []string{"a"}},
		{"all of it waits", []step{add(framedText("a") + "torn")}, []string{"a"}},
		{"torn, and it lasts; a frame waits behind it", []step{write("a"), add("torn"), sync(), add(framedText("b"))}, []string{"a"}},
		{"a frame is made whole by what waits, and torn behind it", []step{add(framedText("abc")[:5]), sync(), add(framedText("abc")[5:] + "x")}, []string{"abc"}},
		{"a swap waits that is torn", []step{write("a"), write("b"), swap(framedText("c") + "torn")}, []string{"c"}},
		{"a swap waits, and what is torn behind it", []step{write("a"), swap(framedText("c")), add(framedText("d")), add("torn")}, []string{"c", "d"}},
		{"a swap waits that is no frame", []step{write("a"), swap("torn")}, nil},
	} {
		t.Run(x.name, func(t *testing.T) {
			d := madeBy(t, 30, x.head...)
			goes(t, d, mend())
			lasts(t, d, framesText(x.want...), x.want, false)
			follows(t, 30, append(x.head, mend(), mend(), write("n"), mend()))
		})
	}
}

// P14.2: Rewrite has just these records be there, and last, in the place of whatever was there.
func TestRewrite(t *testing.T) {
	many := slices.Repeat([]string{"", "a", "bc"}, 20)
	for _, head := range [][]step{
		nil,
		{write("a"), write("bcd")},
		{write("a"), add("torn"), sync()},
		{add("torn")},
		{write("a"), add(framedText("b")), add("torn")},
		{write("a"), swap(framedText("b"))},
		{add(strings.Repeat("f", 500))},
		{add(strings.Repeat("f", 500)), sync()},
	} {
		for _, l := range [][]string{{}, {""}, {"a"}, {"a", "bcd"}, {"", "", ""}, {framedText("in")}, {strings.Repeat("x", 127), strings.Repeat("y", 128)}, many, {"same", "same"}} {
			d := madeBy(t, 500, head...)
			goes(t, d, rewrite(l...))
			lasts(t, d, framesText(l...), l, false)
			if d.Room() != 500-len(framesText(l...)) {
				t.Errorf("Room = %d", d.Room())
			}
			follows(t, 500, append(head, rewrite(l...), write("n"), rewrite(l...), mend()))
		}
	}
}

// P14.2: no body, as nil and as none, leaves nothing; bodies of nil and of nothing are records.
func TestRewriteNothing(t *testing.T) {
	for _, l := range [][][]byte{nil, {}, make([][]byte, 0, 3)} {
		d := madeBy(t, 20, write("a"), add("torn"), sync(), add("wait"))
		if e := Rewrite(d, l); e != api.OK {
			t.Errorf("Rewrite = %d", e)
		}
		lasts(t, d, "", nil, false)
	}
	d := made(t, 18)
	if e := Rewrite(d, [][]byte{nil, {}, make([]byte, 0, 3)}); e != api.OK {
		t.Errorf("Rewrite = %d", e)
	}
	lasts(t, d, framesText("", "", ""), []string{"", "", ""}, false)
}

// P14.2: frames that are together just what a disk holds, whatever was on it, and one byte more; the greatest disk too.
func TestRewriteFits(t *testing.T) {
	for _, l := range [][]string{{""}, {"a"}, {"a", "", "bcd"}, {longest()}, {longest(), longest(), longest(), strings.Repeat("x", 4068)}} {
		size := len(framesText(l...))
		for _, head := range [][]step{nil, {write("")}, {add("t")}, {add(strings.Repeat("f", size)), sync()}, {add(strings.Repeat("f", size))}, {swap("t"), add("t")}} {
			d := madeBy(t, size, head...)
			goes(t, d, rewrite(l...))
			lasts(t, d, framesText(l...), l, false)
		}
		over := [][]string{append(slices.Clone(l), "")}
		if last := len(l) - 1; len(l[last]) < 4096 {
			more := append(slices.Clone(l[:last]), l[last]+"1")
			turned := slices.Clone(more)
			slices.Reverse(turned)
			over = append(over, more, turned)
		}
		for _, l := range over {
			for _, head := range [][]step{nil, {write("")}, {add("t")}, {add(strings.Repeat("f", size)), sync()}, {swap("t")}} {
				refused(t, size, head, rewrite(l...), api.ErrFull)
			}
		}
	}
}

// P14.2: one that is too long, wherever it is, is told ahead of what is too much; both change nothing.
func TestRewriteRefused(t *testing.T) {
	over := slices.Repeat([]string{longest()}, 5)
	for _, x := range []struct {
		name string
		size int
		l    []string
		want api.Errno
	}{
		{"too long alone", api.MaxDisk, []string{long()}, api.ErrLong},
		{"too long as the first", api.MaxDisk, []string{long(), "a", "b"}, api.ErrLong},
		{"too long in the midst", api.MaxDisk, []string{"a", long(), "b"}, api.ErrLong},
		{"too long as the last", api.MaxDisk, []string{"a", "b", long()}, api.ErrLong},
		{"two too long", api.MaxDisk, []string{"a", long(), long()}, api.ErrLong},
		{"too long alone, and no room", 20, []string{long()}, api.ErrLong},
		{"too long as the last, and no room for those ahead", 20, []string{"abcdefgh", "abcdefgh", long()}, api.ErrLong},
		{"too long as the first, and no room for those behind", 20, []string{long(), "abcdefgh", "abcdefgh"}, api.ErrLong},
		{"too long as the last, behind more than any disk holds", api.MaxDisk, append(slices.Clone(over), long()), api.ErrLong},
		{"too long in the midst of more than any disk holds", api.MaxDisk, append(append(slices.Clone(over), long()), over...), api.ErrLong},
		{"one that is too much", 20, []string{"123456789012345"}, api.ErrFull},
		{"two that are too much", 20, []string{"12345678", "1"}, api.ErrFull},
		{"many that are too much", 20, make([]string, 4), api.ErrFull},
		{"very many", 20, make([]string, 10000), api.ErrFull},
		{"more than any disk holds", api.MaxDisk, over, api.ErrFull},
		{"much more than any disk holds", api.MaxDisk, slices.Repeat(over, 20), api.ErrFull},
	} {
		t.Run(x.name, func(t *testing.T) {
			for _, head := range [][]step{nil, {write("a"), write("bc")}, {add(strings.Repeat("f", 20)), sync()}, {write("a"), add("torn")}, {write("a"), swap(framedText("b")), add("t")}} {
				refused(t, x.size, head, rewrite(x.l...), x.want)
			}
		})
	}
}

// P14.3: a crash of each number of units in the midst of a frame: the records are those that were written, and the new one when it is whole; mended, what is written next is read behind them.
func TestCrashInFrame(t *testing.T) {
	for _, head := range heads() {
		for _, body := range []string{"", "b", "body", strings.Repeat("z", 150)} {
			f := framedText(body)
			for keep := -1; keep <= len(f)+1; keep++ {
				d := made(t, 1000)
				for _, x := range head {
					goes(t, d, write(x))
				}
				goes(t, d, add(f))
				d.Crash(keep)
				part := f[:min(max(keep, 0), len(f))]
				want, frames := slices.Clone(head), framesText(head...)
				if part == f {
					want, frames = append(want, body), frames+f
				}
				lasts(t, d, framesText(head...)+part, want, part != "" && part != f)
				goes(t, d, mend())
				lasts(t, d, frames, want, false)
				goes(t, d, write("next"))
				lasts(t, d, frames+framedText("next"), append(want, "next"), false)
			}
		}
	}
}

// P14.3: a crash ahead of a swap, behind it, and in the midst of frames behind it.
func TestCrashInSwap(t *testing.T) {
	swapped := []string{"x", "yz"}
	behind := framedText("behind")
	for _, head := range heads() {
		for keep := -1; keep <= len(behind)+2; keep++ {
			d := made(t, 1000)
			for _, x := range head {
				goes(t, d, write(x))
			}
			goes(t, d, swap(framesText(swapped...)))
			goes(t, d, add(behind))
			d.Crash(keep)
			part := behind[:min(max(keep-1, 0), len(behind))]
			want := slices.Clone(head)
			if keep > 0 {
				want = slices.Clone(swapped)
			}
			frames := framesText(want...)
			if part == behind {
				want, frames, part = append(want, "behind"), frames+behind, ""
			}
			lasts(t, d, frames+part, want, part != "")
			goes(t, d, mend())
			lasts(t, d, frames, want, false)
			goes(t, d, write("next"))
			lasts(t, d, frames+framedText("next"), append(want, "next"), false)
		}
	}
}

// P14.3: of many records that are on their way at once, a crash of each number of units leaves the first ones, behind all that Write was OK for.
func TestCrashInMany(t *testing.T) {
	r := rand.New(rand.NewSource(14))
	for range 100 {
		size := 60 + r.Intn(200)
		var head, way []string
		ok := made(t, size)
		for range r.Intn(6) {
			if body := text(r, 10); Write(ok, []byte(body)) == api.OK {
				head = append(head, body)
			}
		}
		for range 1 + r.Intn(4) {
			way = append(way, text(r, 10))
		}
		units := min(len(framesText(way...)), size-len(framesText(head...)))
		for keep := range units + 1 {
			d := made(t, size)
			for _, body := range head {
				goes(t, d, write(body))
			}
			goes(t, d, add(framesText(way...)[:units]))
			d.Crash(keep)
			beginning(t, d, head, append(slices.Clone(head), way...))
			goes(t, d, mend())
			got := texts(beginning(t, d, head, append(slices.Clone(head), way...)))
			if next := text(r, 10); d.Room() >= len(framedText(next)) {
				goes(t, d, write(next))
				want := append(got, next)
				lasts(t, d, framesText(want...), want, false)
			}
		}
	}
}

// beginning: the records are the first of all that were to be, and those that had to be are among them.
func beginning(t *testing.T, d *disk.Disk, had, all []string) [][]byte {
	t.Helper()
	l, _ := Read(d)
	got := texts(l)
	if len(got) < len(had) || len(got) > len(all) || !slices.Equal(got, all[:len(got)]) {
		t.Fatalf("Read = %q, of %q, at least %q", got, all, had)
	}
	return l
}

// P14.3: a log that is written, rewritten and crashed again and again, and mended behind each crash, holds at each point just the records that were, and those that the crash let through.
func TestLongLife(t *testing.T) {
	r := rand.New(rand.NewSource(15))
	for range 300 {
		size := 20 + r.Intn(200)
		d := made(t, size)
		var had []string
		for range 60 {
			switch body := text(r, 12); r.Intn(5) {
			case 0, 1:
				if Write(d, []byte(body)) == api.OK {
					had = append(had, body)
				}
			case 2:
				l := had[min(len(had), r.Intn(4)):]
				if Rewrite(d, lines(l)) == api.OK {
					had = slices.Clone(l)
				}
			case 3:
				// A write that a crash cuts: the frame alone is on its way.
				d.Append([]byte(framedText(body)))
				d.Crash(r.Intn(d.Waiting() + 1))
				had = texts(beginning(t, d, had, append(slices.Clone(had), body)))
				goes(t, d, mend())
			case 4:
				// A rewriting that a crash cuts: all of it, or nothing.
				l, keep := []string{body, "n"}, r.Intn(2)
				if d.Swap([]byte(framesText(l...))) == api.OK && keep == 1 {
					had = l
				}
				d.Crash(keep)
				goes(t, d, mend())
			}
			lasts(t, d, framesText(had...), had, false)
		}
	}
}

// few are steps of all kinds for a disk of 20 bytes, with some that must be refused.
func few() []step {
	f := framedText("f")
	return []step{
		write(""), write("ab"), write("123456789012345"), write(long()), mend(),
		rewrite(), rewrite("r"), rewrite("r", ""), rewrite("12345678", "1"), rewrite("r", long()),
		add(f), add(f[:4]), add(f[4:]), swap(f), swap(f + "t"), sync(), crash(0), crash(1), crash(7),
	}
}

// P14.1, P14.2: all ways through four of these steps.
func TestAllShortWays(t *testing.T) {
	for _, a := range few() {
		for _, b := range few() {
			for _, c := range few() {
				for _, d := range few() {
					follows(t, 20, []step{a, b, c, d})
				}
			}
		}
	}
}

// P14.3: behind all ways through two of them, a crash of each number of units, in the midst of a frame and of a swap.
func TestCrashesOfAllShortWays(t *testing.T) {
	for _, a := range few() {
		for _, b := range few() {
			crashes(t, 20, []step{a, b, add(framedText("p"))})
			crashes(t, 20, []step{a, b, swap(framedText("q")), add(framedText("r")[:5])})
			crashes(t, 20, []step{a, b, write("p")})
			crashes(t, 20, []step{a, b, mend()})
			crashes(t, 20, []step{a, b, rewrite("q", "r")})
		}
	}
}

// text is some bytes by chance, up to so many; chance is a step by chance, for a disk of so many bytes.
func text(r *rand.Rand, most int) string {
	b := make([]byte, r.Intn(most+1))
	r.Read(b)
	return string(b)
}
func chance(r *rand.Rand, size int) step {
	body := text(r, min(size/4, 4100))
	f := framedText(body)
	switch r.Intn(16) {
	case 0, 1, 2, 3:
		return write(body)
	case 4:
		return write(text(r, size))
	case 5, 6:
		return mend()
	case 7:
		return rewrite(body, text(r, size/4))
	case 8:
		return rewrite(body, text(r, size/2), text(r, size/2))
	case 9:
		return add(f)
	case 10:
		return add(f[:r.Intn(len(f))])
	case 11:
		return add(text(r, 3))
	case 12:
		return swap(f)
	case 13:
		return swap(f + text(r, 2))
	case 14:
		return sync()
	}
	return crash(r.Intn(size+4) - 2)
}

// P14.1, P14.2: many steps by chance, on disks of many sizes, the greatest too.
func TestByChance(t *testing.T) {
	r := rand.New(rand.NewSource(16))
	ways := func(size, count int) []step {
		var l []step
		for range count {
			l = append(l, chance(r, size))
		}
		return l
	}
	for range 600 {
		size := 1 + r.Intn(120)
		follows(t, size, ways(size, 60))
		crashes(t, size, ways(size, 10))
	}
	for range 3 {
		follows(t, api.MaxDisk, ways(api.MaxDisk, 20))
	}
}

// P14.1: behind what is torn a record is appended and synced all the same, but isn't read; what is torn may be made whole by it.
func TestWriteBehindTorn(t *testing.T) {
	d := madeBy(t, 100, write("a"), add("torn"), sync())
	goes(t, d, write("b"))
	lasts(t, d, framedText("a")+"torn"+framedText("b"), []string{"a"}, true)
	goes(t, d, mend())
	goes(t, d, write("b"))
	lasts(t, d, framesText("a", "b"), []string{"a", "b"}, false)

	// The frame of a body that ends as the written frame does.
	outer := framedText(framedText("in"))
	d = madeBy(t, 100, add(outer[:2]), sync(), write("in"))
	holds(t, d, outer[:2]+framedText("in"), nil, true)
	goes(t, d, add(outer[2+len(framedText("in")):]))
	holds(t, d, outer, []string{framedText("in")}, false)
}

// P14.1, P14.2: what Write, Mend and Rewrite synced is there behind a crash; ahead of them what waited goes with it.
func TestWritesThatWait(t *testing.T) {
	head := []step{write("a"), add(framedText("w"))}
	for _, x := range []struct {
		do   step
		want []string
	}{
		{write("b"), []string{"a", "w", "b"}}, {rewrite("b"), []string{"b"}}, {rewrite(), nil},
	} {
		d := madeBy(t, 50, head...)
		goes(t, d, x.do)
		for _, keep := range []int{0, 1, math.MaxInt, math.MinInt} {
			lasts(t, d, framesText(x.want...), x.want, false)
			d.Crash(keep)
		}
	}
	d := madeBy(t, 50, append(head, swap(framedText("s")))...)
	goes(t, d, write("b"))
	lasts(t, d, framesText("s", "b"), []string{"s", "b"}, false)
}

// scribble writes over bytes and their spare room.
func scribble(b []byte) {
	b = b[:cap(b)]
	for i := range b {
		b[i] = '#'
	}
}

// roomy is bytes with spare room behind them, which are easy to tell; untouched: they are as they were, and so is the room.
func roomy(text string) []byte { return []byte(text + "spare room")[:len(text)] }
func untouched(b []byte, text string) bool {
	return string(b) == text && string(b[:len(text)+10]) == text+"spare room"
}

// P14.1: what Write was handed it doesn't change, its spare room neither, whether it is refused or not, nor keep.
func TestWriteHandedOver(t *testing.T) {
	d := made(t, 20)
	for _, x := range []struct {
		body string
		want api.Errno
	}{{"abc", api.OK}, {"", api.OK}, {"more than there is room for", api.ErrFull}, {long(), api.ErrLong}} {
		b := roomy(x.body)
		if e := Write(d, b); e != x.want || !untouched(b, x.body) {
			t.Errorf("Write of %.40q = %d, want %d; it is now %.40q", x.body, e, x.want, b)
		}
		read := string(d.Read())
		scribble(b)
		if string(d.Read()) != read {
			t.Errorf("%.40q is the disk's own", x.body)
		}
	}
	lasts(t, d, framesText("abc", ""), []string{"abc", ""}, false)
}

// P14.2: what Rewrite was handed, the list, its bodies and all spare room, it doesn't change, nor keep.
func TestRewriteHandedOver(t *testing.T) {
	for _, x := range []struct {
		l    []string
		want api.Errno
	}{{[]string{"abc", "", "d"}, api.OK}, {[]string{"abc", "", "more than there is room for"}, api.ErrFull}, {[]string{"abc", long(), "d"}, api.ErrLong}} {
		d := madeBy(t, 30, write("old"))
		l := make([][]byte, 0, 5)
		for _, text := range append(slices.Clone(x.l), "behind", "and") {
			l = append(l, roomy(text))
		}
		l = l[:3]
		if e := Rewrite(d, l); e != x.want {
			t.Errorf("Rewrite of %.40q = %d, want %d", x.l, e, x.want)
		}
		for i, text := range append(slices.Clone(x.l), "behind", "and") {
			if !untouched(l[:5][i], text) {
				t.Errorf("%.40q is now %.40q", text, l[:5][i])
			}
		}
		read := string(d.Read())
		for i := range l[:5] {
			scribble(l[:5][i])
			l[:5][i] = []byte("other")
		}
		if string(d.Read()) != read {
			t.Errorf("%.40q is the disk's own", x.l)
		}
	}
}

// P14.2: bodies of a list may be one and the same memory, or share some.
func TestRewriteShared(t *testing.T) {
	d := made(t, 100)
	all := []byte("abcdef")
	if e := Rewrite(d, [][]byte{all, all, all[:3], all[2:], all[:0], all[:3]}); e != api.OK {
		t.Fatal(e)
	}
	want := []string{"abcdef", "abcdef", "abc", "cdef", "", "abc"}
	lasts(t, d, framesText(want...), want, false)
	l, _ := Read(d)
	if e := Rewrite(d, l[1:4]); e != api.OK {
		t.Fatal(e)
	}
	lasts(t, d, framesText(want[1:4]...), want[1:4], false)
}

// P14.1: what Read hands out is new memory, its spare room too, apart from the disk, from another answer, and one body from another.
func TestHandedOut(t *testing.T) {
	want := []string{"abc", "de", "", "fgh"}
	for _, head := range [][]step{{rewrite(want...)}, {add(framesText(want...))}} {
		d := madeBy(t, 50, head...)
		first, _ := Read(d)
		second, _ := Read(d)
		for i := range first {
			scribble(first[i])
			for k := i + 1; k < len(first); k++ {
				if string(first[k]) != want[k] {
					t.Errorf("%d shares memory with %d: %q", k, i, first[k])
				}
			}
		}
		for i := range first[:cap(first)] {
			first[:cap(first)][i] = []byte("other")
		}
		if !slices.Equal(texts(second), want) {
			t.Errorf("another answer is now %q", second)
		}
		holds(t, d, framesText(want...), want, false)
	}
}

// P14.1, P14.2: logs on disks of their own are apart.
func TestApart(t *testing.T) {
	a, b := made(t, 50), made(t, 50)
	goes(t, a, write("a"))
	lasts(t, b, "", nil, false)
	goes(t, b, rewrite("b", "c"))
	goes(t, b, add("torn"))
	goes(t, a, mend())
	holds(t, b, framesText("b", "c")+"torn", []string{"b", "c"}, true)
	goes(t, b, mend())
	lasts(t, a, framedText("a"), []string{"a"}, false)
	lasts(t, b, framesText("b", "c"), []string{"b", "c"}, false)
}
