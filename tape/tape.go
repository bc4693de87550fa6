// Package tape keeps what a guest told apart from the guest while it goes on: what was answered, and the console. Both only grow, and no cycle asks for them, so that a cycle of a guest that has told much costs no more than one of a guest that has told nothing.
package tape

import "transom/api"

// Tape is what a guest told so far.
type Tape struct {
	trace []api.Event
	cons  []byte
}

// Take takes off a seat what its guest told since.
func (t *Tape) Take(s api.Seat) api.Seat {
	t.trace = append(t.trace, s.K.Trace...)
	t.cons = append(t.cons, s.K.Cons...)
	s.K.Trace, s.K.Cons = nil, ""
	return s
}

// Back is a seat whose guest told all that is on the tape.
func (t *Tape) Back(s api.Seat) api.Seat {
	s.K.Trace, s.K.Cons = t.trace, string(t.cons)
	return s
}
