package event

import (
	"murmur/api"
	"murmur/vint"
)

// face is the one way to what reads and writes, so that giving up ends here: by which error that was, or OK.
func face(do func()) (e api.Errno) {
	defer func() {
		if up, ok := recover().(api.Errno); ok {
			e = up
		}
	}()
	do()
	return api.OK
}

// need gives up by e, unless what is needed is so.
func need(so bool, e api.Errno) {
	if !so {
		panic(e)
	}
}

// through goes through an event's numbers, in the order in which they are written, and is the one place that knows it.
// What is handed the numbers reads them or writes them; which are the event's is told by those ahead.
func through(e *api.Event, do func(n *int)) {
	throughDot(&e.Dot, do)
	do(&e.Time)
	do(&e.Kind)
	need(e.Kind == api.Sample || e.Kind == api.Set || e.Kind == api.Del, api.ErrForm)
	do(&e.Work)
	if e.Kind == api.Sample {
		do(&e.Value)
		return
	}
	if e.Kind == api.Set {
		throughPolicy(&e.Policy, do)
	}
	throughRemoves(e, do)
}

// throughDot goes through a dot's numbers.
func throughDot(d *api.Dot, do func(n *int)) {
	do(&d.Node)
	do(&d.Seq)
}

// throughPolicy goes through a policy's numbers.
func throughPolicy(p *api.Policy, do func(n *int)) {
	do(&p.Min)
	do(&p.Max)
	do(&p.Goal)
	do(&p.Slack)
	do(&p.Up)
	do(&p.Down)
	do(&p.Cool)
}

// throughRemoves goes through how many dots an event removes, and through theirs.
func throughRemoves(e *api.Event, do func(n *int)) {
	count := len(e.Removes)
	do(&count)
	need(count <= api.MaxRemoves, api.ErrLong)
	// An event that is read has none till its number is known; one that is written has them all.
	if len(e.Removes) < count {
		e.Removes = make([]api.Dot, count)
	}
	for i := range e.Removes {
		throughDot(&e.Removes[i], do)
	}
}

// writer is bytes that grow by numbers.
type writer struct{ bytes []byte }

// number puts a number at the end.
func (w *writer) number(n *int) {
	// vint.Put copies what it is handed: with all of the bytes it would, for each number anew.
	one, e := vint.Put(nil, *n)
	need(e == api.OK, e)
	w.bytes = append(w.bytes, one...)
}

// event puts an event's numbers at the end.
func (w *writer) event(e api.Event) {
	need(Right(e), api.ErrArg)
	through(&e, w.number)
}

// events puts at the end how many there are, and each one's numbers.
func (w *writer) events(l []api.Event) {
	count := len(l)
	need(count <= most, api.ErrLong)
	w.number(&count)
	for _, e := range l {
		w.event(e)
	}
}

// reader is bytes that are gone through by numbers.
type reader struct{ from *vint.Reader }

// open is one at the beginning of bytes.
func open(b []byte) *reader { return &reader{from: vint.New(b)} }

// number sets a number to the one that comes next.
func (r *reader) number(n *int) {
	*n = r.from.Int()
	need(r.from.Err() == api.OK, r.from.Err())
}

// event is the one that comes next.
func (r *reader) event() api.Event {
	var e api.Event
	through(&e, r.number)
	need(Right(e), api.ErrForm)
	return e
}

// events are those that come next, behind their number.
func (r *reader) events() []api.Event {
	count := 0
	r.number(&count)
	need(count <= most, api.ErrLong)
	var l []api.Event
	for range count {
		l = append(l, r.event())
	}
	return l
}

// end gives up, if anything is left.
func (r *reader) end() { need(r.from.Left() == 0, api.ErrForm) }
