// Package own makes values that share no memory with others: what a call answers may be changed, and what it was handed in stays as it was.
package own

import "transom/api"

// List is a row of its own.
func List[T any](l []T) []T {
	r := make([]T, len(l))
	copy(r, l)
	return r
}

// Each is a row of what is made of each of another one.
func Each[T, U any](l []T, made func(T) U) []U {
	r := make([]U, len(l))
	for n, x := range l {
		r[n] = made(x)
	}
	return r
}

// Rows are rows of their own.
func Rows[T any](l [][]T) [][]T {
	return Each(l, List[T])
}

// Plan is a plan of its own.
func Plan(p api.Plan) api.Plan {
	p.Parts = List(p.Parts)
	p.Wins = Rows(p.Wins)
	p.Chans = List(p.Chans)
	return p
}

// Kern is a guest of its own.
func Kern(k api.Kern) api.Kern {
	k.P = List(k.P)
	k.T.L = List(k.T.L)
	k.S = List(k.S)
	k.Pipes = List(k.Pipes)
	k.H.L = List(k.H.L)
	k.Images = List(k.Images)
	k.Outs = List(k.Outs)
	k.Ins = List(k.Ins)
	k.In = Each(k.In, func(b api.Box) api.Box {
		b.L = List(b.L)
		return b
	})
	k.Trace = List(k.Trace)
	k.Sent = List(k.Sent)
	return k
}

// Seat is a seat of its own.
func Seat(s api.Seat) api.Seat {
	s.K = Kern(s.K)
	return s
}

// System is a whole machine of its own.
func System(s api.System) api.System {
	s.P = Plan(s.P)
	s.Images = Rows(s.Images)
	s.Seats = Each(s.Seats, Seat)
	s.Arrived = Rows(s.Arrived)
	return s
}
