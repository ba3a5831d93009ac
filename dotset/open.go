package dotset

import "murmur/api"

// wide is how many bits a word has.
const wide = 64

// open is a set laid open: of each node a bit for each Seq from 0 on, though no dot has 0.
type open struct {
	words [api.MaxNodes][api.MaxSeq/wide + 1]uint64
}

// lay opens a set.
func lay(s Set) *open {
	o := &open{}
	over(s, o.mark)
	return o
}

// over does something for each dot of a set; for none of one that isn't right, so that it counts as the empty one.
func over(s Set, do func(d api.Dot)) {
	if !Right(s) {
		return
	}
	for node, upto := range s.Upto {
		for i := range upto {
			do(api.Dot{Node: node, Seq: i + 1})
		}
	}
	for _, d := range s.More {
		do(d)
	}
}

// mark puts a dot in, wipe takes it out; it must be one that may be.
func (o *open) mark(d api.Dot) { o.words[d.Node][d.Seq/wide] |= 1 << (d.Seq % wide) }
func (o *open) wipe(d api.Dot) { o.words[d.Node][d.Seq/wide] &^= 1 << (d.Seq % wide) }

// has says whether a dot that may be is marked.
func (o *open) has(d api.Dot) bool { return o.words[d.Node][d.Seq/wide]>>(d.Seq%wide)&1 == 1 }

// each does something for each dot that is marked, in order.
func (o *open) each(do func(d api.Dot)) {
	for node := range api.MaxNodes {
		for i := range api.MaxSeq {
			if d := (api.Dot{Node: node, Seq: i + 1}); o.has(d) {
				do(d)
			}
		}
	}
}

// closed is the right set of what is marked.
func (o *open) closed() Set {
	c := &closing{}
	o.each(c.take)
	return c.set
}

// list is what is marked, in order.
func (o *open) list() []api.Dot {
	l := &listing{}
	o.each(l.take)
	return l.dots
}

// closing is a right set that grows by dots in order.
type closing struct{ set Set }

// take has the dot raise its node's Upto, as long as none is missing ahead of it.
func (c *closing) take(d api.Dot) {
	if d.Seq == c.set.Upto[d.Node]+1 {
		c.set.Upto[d.Node] = d.Seq
		return
	}
	c.set.More = append(c.set.More, d)
}

// listing is dots, one behind the other.
type listing struct{ dots []api.Dot }

// take puts the dot at the end.
func (l *listing) take(d api.Dot) { l.dots = append(l.dots, d) }
