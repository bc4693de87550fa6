package hyper

import (
	"transom/api"
	"transom/own"
	"transom/route"
	"transom/seat"
	"transom/tape"
	"transom/window"
)

// nobody owns a cycle of no window, and one that the beginning of a window costs.
const nobody = -1

// machine goes on in memory that is its own; what its guests told is on tapes.
type machine struct {
	api.System
	tapes []tape.Tape
}

// on is a machine that goes on from where one stands.
func on(s api.System) *machine {
	m := &machine{own.System(s), make([]tape.Tape, len(s.Seats))}
	m.seats(func(t *tape.Tape, s api.Seat) api.Seat { return t.Take(s) })
	return m
}

// off is where the machine stands.
func (m *machine) off() api.System {
	m.seats(func(t *tape.Tape, s api.Seat) api.Seat { return t.Back(s) })
	return m.System
}

// seats goes through all seats, each with its tape.
func (m *machine) seats(do func(*tape.Tape, api.Seat) api.Seat) {
	for n := range m.Seats {
		m.Seats[n] = do(&m.tapes[n], m.Seats[n])
	}
}

// step is one cycle.
func (m *machine) step() {
	who, how := window.At(m.P, m.Sched, m.Now)
	switch how {
	case api.GOwn:
		m.Owner = who
		m.cycle(who)
	case api.GSwitch:
		if window.Starts(m.P, m.Sched, m.Now) && who < len(m.Seats) {
			m.Seats[who] = seat.Window(m.Seats[who])
		}
		fallthrough
	default:
		m.Owner = nobody
	}
	m.Now++
	if multiple(m.Now, m.P.Frame) {
		m.Sched = m.Next
	}
}

// multiple tells whether a time is a multiple of a number; of 0 only 0 is.
func multiple(t uint64, n int) bool {
	size := uint64(n)
	if n < 0 {
		size = -size
	}
	if size == 0 {
		return t == 0
	}
	return t%size == 0
}

// cycle is a cycle of a partition's own, if its seat goes.
func (m *machine) cycle(who int) {
	if who >= len(m.Seats) || !seat.Goes(m.Seats[who]) {
		return
	}
	s := m.tapes[who].Take(seat.Cycle(m.P.Parts[who], m.Seats[who]))
	m.Seats[who] = s
	for _, o := range s.K.Sent {
		m.send(who, o)
	}
	// The partition 0 alone may ask for a schedule.
	if next := s.K.Want - api.WMode; who == 0 && next >= 0 && next < len(m.P.Wins) {
		m.Next = next
	}
}

// send brings a message to where its port leads.
func (m *machine) send(who int, o api.Out) {
	to, ok := route.To(m.P, who, o.Port)
	if !ok || to.Part >= min(len(m.Seats), len(m.Arrived)) {
		return
	}
	s := seat.Arrive(m.Seats[to.Part], to.Port, o.Body)
	m.Seats[to.Part] = s
	m.Arrived[to.Part] = append(m.Arrived[to.Part], api.Stamp{At: s.K.Now, Port: to.Port, Body: o.Body})
}
