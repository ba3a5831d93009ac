package store

import (
	"murmur/api"
	"murmur/event"
	"murmur/vint"
)

// A record's first byte says what it is of.
const (
	ofUpto  = 1 // numbers that are reserved, up to one
	ofInc   = 2 // an incarnation
	ofEvent = 3
)

// numberRecord is the record of a number.
func numberRecord(of byte, n int) []byte {
	b, e := vint.Put([]byte{of}, n)
	must(e)
	return b
}

// eventRecord is the record of an event.
func eventRecord(e api.Event) []byte {
	b, err := event.Put(e)
	must(err)
	return append([]byte{ofEvent}, b...)
}

// read has the store know what a record says.
func (s *Store) read(body []byte) {
	reads := [...]func(s *Store, said []byte){
		ofUpto:  (*Store).readUpto,
		ofInc:   (*Store).readInc,
		ofEvent: (*Store).readEvent,
	}
	need(len(body) > 0 && int(body[0]) < len(reads), api.ErrForm)
	do := reads[body[0]]
	need(do != nil, api.ErrForm)
	do(s, body[1:])
}

// readUpto has numbers be reserved. A greater one may stand ahead.
func (s *Store) readUpto(said []byte) {
	n := number(said)
	need(n <= api.MaxSeq, api.ErrForm)
	s.upto = max(s.upto, n)
}

// readInc has the incarnation be known.
func (s *Store) readInc(said []byte) { s.inc = max(s.inc, number(said)) }

// readEvent keeps an event, unless one of its dot is.
func (s *Store) readEvent(said []byte) {
	e, err := event.Get(said)
	need(err == api.OK, api.ErrForm)
	if !has(s.events, e.Dot) {
		s.events = append(s.events, e)
	}
}

// number is the one that these bytes are, all of them.
func number(said []byte) int {
	r := vint.New(said)
	n := r.Int()
	need(r.Err() == api.OK && r.Left() == 0, api.ErrForm)
	return n
}
