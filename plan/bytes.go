package plan

import (
	"errors"
	"strconv"
	"strings"

	"transom/api"
)

// mark is what the bytes of each plan begin with.
const mark = "TP"

// Bytes are a plan's.
func Bytes(p api.Plan) (string, api.Errno) {
	if e := Check(p); e != api.OK {
		return "", e
	}
	b := numbers([]byte(mark), len(p.Parts))
	for _, x := range p.Parts {
		b = numbers(b, x.Mem, x.Act[0], x.Act[1], x.Act[2])
	}
	b = numbers(b, p.Frame, len(p.Wins))
	for _, l := range p.Wins {
		b = numbers(b, len(l))
		for _, w := range l {
			b = numbers(b, w.Part, w.From, w.Len)
		}
	}
	b = numbers(b, len(p.Chans))
	for _, c := range p.Chans {
		b = numbers(b, c.Kind, c.From, c.To, c.Size, c.Depth)
	}
	return string(b), api.OK
}

// numbers puts numbers of two bytes behind others.
func numbers(b []byte, l ...int) []byte {
	for _, n := range l {
		b = append(b, byte(n>>8), byte(n))
	}
	return b
}

// Why bytes are no plan's.
var (
	errMore = errors.New("bytes are missing")
	errBig  = errors.New("too many")
	errForm = errors.New("bytes are left")
)

// fault tells where a reader stopped, and why.
type fault struct {
	left int
	why  error
}

func (f fault) Error() string {
	return f.why.Error() + ", " + strconv.Itoa(f.left) + " bytes ahead of the end"
}

func (f fault) Unwrap() error { return f.why }

// reader takes numbers off; behind its first error all that it tells is 0.
type reader struct {
	s   string
	err error
}

// stop keeps the first error alone.
func (r *reader) stop(why error) {
	if r.err == nil {
		r.err = fault{left: len(r.s), why: why}
	}
}

// number takes off a number.
func (r *reader) number() int {
	if len(r.s) < 2 {
		r.stop(errMore)
	}
	if r.err != nil {
		return 0
	}
	n := int(r.s[0])<<8 | int(r.s[1])
	r.s = r.s[2:]
	return n
}

// count takes off a number of how many.
func (r *reader) count(most int) int {
	n := r.number()
	if n > most {
		r.stop(errBig)
		return 0
	}
	return n
}

// fill takes off as many numbers as there are places for them.
func (r *reader) fill(l ...*int) {
	for _, n := range l {
		*n = r.number()
	}
}

// plan takes off all of a plan.
func (r *reader) plan() api.Plan {
	var p api.Plan
	p.Parts = make([]api.Part, r.count(api.MaxParts))
	for n := range p.Parts {
		x := &p.Parts[n]
		r.fill(&x.Mem, &x.Act[0], &x.Act[1], &x.Act[2])
	}
	p.Frame = r.number()
	p.Wins = make([][]api.Win, r.count(api.MaxScheds))
	for n := range p.Wins {
		p.Wins[n] = make([]api.Win, r.count(api.MaxWins))
		for k := range p.Wins[n] {
			w := &p.Wins[n][k]
			r.fill(&w.Part, &w.From, &w.Len)
		}
	}
	p.Chans = make([]api.Chan, r.count(api.MaxChans))
	for n := range p.Chans {
		c := &p.Chans[n]
		r.fill(&c.Kind, &c.From, &c.To, &c.Size, &c.Depth)
	}
	if r.s != "" {
		r.stop(errForm)
	}
	return p
}

// code is an error's number.
func code(err error) api.Errno {
	var f fault
	if !errors.As(err, &f) {
		return api.OK
	}
	switch {
	case errors.Is(f, errMore):
		return api.ErrMore
	case errors.Is(f, errBig):
		return api.ErrBig
	}
	return api.ErrForm
}

// Take is the plan of bytes.
func Take(s string) (api.Plan, api.Errno) {
	if !strings.HasPrefix(s, mark) {
		return api.Plan{}, api.ErrForm
	}
	r := reader{s: s[len(mark):]}
	p := r.plan()
	e := code(r.err)
	if e == api.OK {
		e = Check(p)
	}
	if e != api.OK {
		return api.Plan{}, e
	}
	return p, api.OK
}
