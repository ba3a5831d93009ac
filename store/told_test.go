package store

import (
	"encoding/binary"
	"hash/crc32"
	"slices"
	"strings"

	"murmur/api"
)

// numberText is a number by the document's words: seven bits a byte, the lowest first, all but the last with 128 more.
func numberText(n int) string {
	text := ""
	for ; n >= 128; n /= 128 {
		text += string([]byte{byte(n%128 + 128)})
	}
	return text + string([]byte{byte(n)})
}

// numbersText are numbers, one behind the other.
func numbersText(l ...int) string {
	text := ""
	for _, n := range l {
		text += numberText(n)
	}
	return text
}

// numbersOf are the numbers that a text is, all of it; each in its shortest form, none above Top.
func numbersOf(text string) ([]int, bool) {
	var l []int
	for text != "" {
		n, size := 0, 0
		for {
			if size == len(text) || size == 6 {
				return nil, false
			}
			c := int(text[size])
			n += c % 128 << (7 * size)
			size++
			if c < 128 {
				break
			}
		}
		if n > api.Top || numberText(n) != text[:size] {
			return nil, false
		}
		l, text = append(l, n), text[size:]
	}
	return l, true
}

// dotMayBe, policyMayBe and eventMayBe are the document's words on what is right.
func dotMayBe(d api.Dot) bool { return d.Node >= 0 && d.Node <= 7 && d.Seq >= 1 && d.Seq <= 96 }
func policyMayBe(p api.Policy) bool {
	return p.Min >= 0 && p.Min <= p.Max && p.Max <= 1000 && p.Goal >= 1 && p.Goal <= 1<<30 && p.Slack >= 0 && p.Slack <= 100 &&
		p.Up >= 1 && p.Up <= 1000 && p.Down >= 1 && p.Down <= 1000 && p.Cool >= 0 && p.Cool <= 1000
}
func eventMayBe(e api.Event) bool {
	if !dotMayBe(e.Dot) || e.Time < 1 || e.Time > api.Top || e.Work < 0 || e.Work > 7 || len(e.Removes) > 96 {
		return false
	}
	for i, d := range e.Removes {
		if !dotMayBe(d) || d == e.Dot || i > 0 && e.Removes[i-1].Node*100+e.Removes[i-1].Seq >= d.Node*100+d.Seq {
			return false
		}
	}
	switch e.Kind {
	case 1:
		return e.Value >= 0 && e.Value <= api.Top && e.Policy == api.Policy{} && len(e.Removes) == 0
	case 2:
		return e.Value == 0 && policyMayBe(e.Policy)
	case 3:
		return e.Value == 0 && e.Policy == api.Policy{}
	}
	return false
}

// eventText is an event's bytes by the document's words; eventOf is the event of which these are the numbers.
func eventText(e api.Event) string {
	text := numbersText(e.Dot.Node, e.Dot.Seq, e.Time, e.Kind, e.Work)
	if e.Kind == 1 {
		return text + numberText(e.Value)
	}
	if p := e.Policy; e.Kind == 2 {
		text += numbersText(p.Min, p.Max, p.Goal, p.Slack, p.Up, p.Down, p.Cool)
	}
	text += numberText(len(e.Removes))
	for _, d := range e.Removes {
		text += numbersText(d.Node, d.Seq)
	}
	return text
}
func eventOf(l []int) (e api.Event, ok bool) {
	if len(l) < 6 {
		return e, false
	}
	e = api.Event{Dot: api.Dot{Node: l[0], Seq: l[1]}, Time: l[2], Kind: l[3], Work: l[4]}
	l = l[5:]
	if e.Kind == 1 {
		e.Value = l[0]
		return e, len(l) == 1 && eventMayBe(e)
	}
	if e.Kind == 2 {
		if len(l) < 8 {
			return e, false
		}
		e.Policy = api.Policy{Min: l[0], Max: l[1], Goal: l[2], Slack: l[3], Up: l[4], Down: l[5], Cool: l[6]}
		l = l[7:]
	}
	if len(l) != 1+2*l[0] {
		return e, false
	}
	for i := 1; i < len(l); i += 2 {
		e.Removes = append(e.Removes, api.Dot{Node: l[i], Seq: l[i+1]})
	}
	return e, eventMayBe(e)
}

// uptoText, incText and keptText are the records of numbers that are reserved, of an incarnation and of an event.
func uptoText(n int) string       { return "\x01" + numberText(n) }
func incText(n int) string        { return "\x02" + numberText(n) }
func keptText(e api.Event) string { return "\x03" + eventText(e) }
func keptTexts(l []api.Event) []string {
	var out []string
	for _, e := range l {
		out = append(out, keptText(e))
	}
	return out
}

// framedText is a body's frame by the document's words: a version, a length, the body, a sum.
func framedText(body string) string {
	ahead := "\x01" + numberText(len(body)) + body
	return string(binary.BigEndian.AppendUint32([]byte(ahead), crc32.ChecksumIEEE([]byte(ahead))))
}

// framesText are bodies' frames, one behind the other.
func framesText(bodies ...string) string {
	all := ""
	for _, body := range bodies {
		all += framedText(body)
	}
	return all
}

// bodyAt is the body of the frame that a text begins with: its frame by the document's words is that beginning. A length that may be has one byte or two.
func bodyAt(text string) (string, bool) {
	for _, head := range []int{2, 3} {
		if len(text) < head {
			continue
		}
		n := int(text[1] % 128)
		if head == 3 {
			n += int(text[2]) * 128
		}
		if n > 4096 || head+n > len(text) {
			continue
		}
		if body := text[head : head+n]; strings.HasPrefix(text, framedText(body)) {
			return body, true
		}
	}
	return "", false
}

// recordsOf are the bodies of the frames that a text begins with, and whether more stands behind them.
func recordsOf(text string) (l []string, torn bool) {
	for {
		body, ok := bodyAt(text)
		if !ok {
			return l, text != ""
		}
		l = append(l, body)
		text = text[len(framedText(body)):]
	}
}

// unit is one that waits on a disk, by the words of layer 13: a byte that is appended, or a swap, whole.
type unit struct {
	swap bool
	text string
}

// toldDisk is a disk by the document's words.
type toldDisk struct {
	size  int
	lasts string
	waits []unit
}

// after is what is there, if so many units were done; read is all.
func (m *toldDisk) after(keep int) string {
	there := m.lasts
	for i, u := range m.waits {
		if i >= keep {
			break
		}
		if u.swap {
			there = ""
		}
		there += u.text
	}
	return there
}
func (m *toldDisk) read() string { return m.after(len(m.waits)) }

// append, swap and crash are steps of layer 13; a crash that keeps all is Sync.
func (m *toldDisk) append(text string) api.Errno {
	if len(m.read()+text) > m.size {
		return api.ErrFull
	}
	for i := range len(text) {
		m.waits = append(m.waits, unit{false, text[i : i+1]})
	}
	return api.OK
}
func (m *toldDisk) swap(text string) api.Errno {
	if len(text) > m.size {
		return api.ErrFull
	}
	m.waits = append(m.waits, unit{true, text})
	return api.OK
}
func (m *toldDisk) crash(keep int) { m.lasts, m.waits = m.after(keep), nil }

// synced is what is answered by a write that is to last at once.
func (m *toldDisk) synced(e api.Errno) api.Errno {
	if e == api.OK {
		m.crash(len(m.waits))
	}
	return e
}

// told is a store by the document's words; of one that there isn't, there is false.
type told struct {
	disk            *toldDisk
	there           bool
	upto, used, inc int
	events          []api.Event
}

// hasDot says whether one of these events has that dot.
func hasDot(l []api.Event, d api.Dot) bool {
	for _, e := range l {
		if e.Dot == d {
			return true
		}
	}
	return false
}

// record has it know what a record says, or says that the record may not be.
func (m *told) record(body string) bool {
	if body == "" {
		return false
	}
	l, ok := numbersOf(body[1:])
	if !ok {
		return false
	}
	switch body[0] {
	case 1:
		if len(l) != 1 || l[0] > 96 {
			return false
		}
		m.upto = max(m.upto, l[0])
	case 2:
		if len(l) != 1 {
			return false
		}
		m.inc = max(m.inc, l[0])
	case 3:
		e, ok := eventOf(l)
		if !ok {
			return false
		}
		if !hasDot(m.events, e.Dot) {
			m.events = append(m.events, e)
		}
	default:
		return false
	}
	return true
}

// open has it be what its disk keeps; what there was before stays, where that may not be.
func (m *told) open() api.Errno {
	records, torn := recordsOf(m.disk.read())
	s := &told{disk: m.disk, there: true}
	for _, body := range records {
		if !s.record(body) {
			return api.ErrForm
		}
	}
	s.used = s.upto
	if torn {
		m.disk.synced(m.disk.swap(framesText(records...)))
	}
	*m = *s
	return api.OK
}

// next, bump, keep and compact are the layer's.
func (m *told) next() (int, api.Errno) {
	if !m.there {
		return 0, api.ErrNil
	}
	if n := m.used + 1; n > m.upto {
		if m.upto == 96 {
			return 0, api.ErrFull
		}
		upto := min(m.upto+8, 96)
		if e := m.disk.synced(m.disk.append(framedText(uptoText(upto)))); e != api.OK {
			return 0, e
		}
		m.upto = upto
	}
	m.used++
	return m.used, api.OK
}
func (m *told) bump() (int, api.Errno) {
	if !m.there {
		return 0, api.ErrNil
	}
	if m.inc == api.Top {
		return 0, api.ErrFull
	}
	if e := m.disk.synced(m.disk.append(framedText(incText(m.inc + 1)))); e != api.OK {
		return 0, e
	}
	m.inc++
	return m.inc, api.OK
}
func (m *told) keep(e api.Event) api.Errno {
	if !m.there {
		return api.ErrNil
	}
	if !eventMayBe(e) {
		return api.ErrArg
	}
	if hasDot(m.events, e.Dot) {
		return api.ErrTwice
	}
	if err := m.disk.synced(m.disk.append(framedText(keptText(e)))); err != api.OK {
		return err
	}
	m.events = append(slices.Clone(m.events), e)
	return api.OK
}
func (m *told) compact(l []api.Event) api.Errno {
	if !m.there {
		return api.ErrNil
	}
	for i, e := range l {
		if !eventMayBe(e) || hasDot(l[:i], e.Dot) {
			return api.ErrArg
		}
	}
	if e := m.disk.synced(m.disk.swap(m.compacted(l))); e != api.OK {
		return e
	}
	m.events = slices.Clone(l)
	return api.OK
}

// compacted is what is on the disk behind compact of these.
func (m *told) compacted(l []api.Event) string {
	return framesText(append([]string{uptoText(m.upto), incText(m.inc)}, keptTexts(l)...)...)
}
