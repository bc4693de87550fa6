package seat_test

import (
	"math"
	"slices"
	"strings"
	"testing"

	"transom/api"
	"transom/isa"
	"transom/kern"
	"transom/seat"
)

func image(l ...api.Ins) string {
	s, e := isa.Bytes(l)
	if e != api.OK {
		panic(e)
	}
	return s
}

func li(a, imm int) api.Ins { return api.Ins{Op: api.OLi, A: a, Imm: imm} }

var sys = api.Ins{Op: api.OSys}

// calls is an image of one call with a number, and what follows.
func calls(n, a int, behind ...api.Ins) string {
	return image(append([]api.Ins{li(1, a), li(0, n), sys}, behind...)...)
}

// stay is an instruction that goes on at itself.
var stay = api.Ins{Op: api.OJmp}

func part(act ...int) api.Part { return api.Part{Mem: 128, Act: [3]int(act)} }

var ins = []api.Chan{{Kind: api.CQueue, From: 1, To: 0, Size: 4, Depth: 2}}
var outs = []api.Chan{{Kind: api.CSample, From: 0, To: 1, Size: 8, Depth: 1}}

// clone is a seat that shares nothing that a test changes.
func clone(s api.Seat) api.Seat {
	s.K.P = slices.Clone(s.K.P)
	s.K.T.L = slices.Clone(s.K.T.L)
	s.K.H.L = slices.Clone(s.K.H.L)
	s.K.Trace = slices.Clone(s.K.Trace)
	s.K.In = slices.Clone(s.K.In)
	for n := range s.K.In {
		s.K.In[n].L = slices.Clone(s.K.In[n].L)
	}
	return s
}

func expect(t *testing.T, name string, got, want api.Seat) {
	t.Helper()
	if !kern.Same(got.K, want.K) || got.State != want.State || got.Boots != want.Boots {
		t.Errorf("%s:\n got %+v\nwant %+v", name, got, want)
	}
	if seat.Same(got, want) != (kern.Same(got.K, want.K) && got.State == want.State && got.Boots == want.Boots) {
		t.Errorf("%s: Same", name)
	}
}

// TestBegin: P14.1, a partition that begins.
func TestBegin(t *testing.T) {
	images := []string{image(stay), "abc"}
	s := seat.Begin(part(1, 2, 3), images, outs, ins)
	expect(t, "begin", s, api.Seat{K: kern.Boot(128, images, outs, ins, 0), State: api.XRuns, Boots: 1})
}

// TestBeginOver: P14.1, a guest that is over at once is looked after, once.
func TestBeginOver(t *testing.T) {
	for _, images := range [][]string{nil, {strings.Repeat("a", 65)}} {
		over := kern.Boot(128, images, outs, ins, 0)
		if over.Gone != api.KEnded {
			t.Fatal(over)
		}
		for _, act := range []int{api.HRest, 0, 4, -1, math.MinInt} {
			expect(t, "rests", seat.Begin(part(act, 2, 2), images, outs, ins), api.Seat{K: over, State: api.XRuns, Boots: 1})
		}
		expect(t, "halts", seat.Begin(part(api.HHalt, 1, 1), images, outs, ins), api.Seat{K: over, State: api.XHalts, Boots: 1})
		expect(t, "is reset", seat.Begin(part(api.HReset, 1, 1), images, outs, ins), api.Seat{K: over, State: api.XRuns, Boots: 2})
	}
	small := api.Part{Mem: 63, Act: [3]int{api.HHalt, 1, 1}}
	if s := seat.Begin(small, []string{"a"}, nil, nil); s.State != api.XHalts || s.Boots != 1 {
		t.Error(s)
	}
}

// TestGoes: P14.1, which states go, and what a window does to them.
func TestGoes(t *testing.T) {
	s := seat.Begin(part(1, 1, 1), []string{image(stay)}, outs, ins)
	for _, state := range []int{math.MinInt, -1, 0, api.XRuns, api.XRests, api.XHalts, 4, math.MaxInt} {
		s.State = state
		if seat.Goes(s) != (state == api.XRuns) {
			t.Error(state)
		}
		want := clone(s)
		if state == api.XRests {
			want.State = api.XRuns
		}
		expect(t, "window", seat.Window(s), want)
		if state != api.XRuns {
			expect(t, "doesn't go", seat.Cycle(part(2, 2, 2), s), s)
		}
	}
}

// TestCycle: P14.2, a cycle of its guest, if nothing is wanted.
func TestCycle(t *testing.T) {
	for _, img := range []string{calls(api.SPid, 0, stay), calls(api.SMode, 1, stay), calls(api.SMode, 0, stay), calls(api.SSend, 0, stay)} {
		s := seat.Begin(part(2, 2, 2), []string{img}, outs, ins)
		k := s.K
		for range 6 {
			s, k = seat.Cycle(part(2, 2, 2), s), kern.Step(k)
			expect(t, "cycle", s, api.Seat{K: k, State: api.XRuns, Boots: 1})
		}
	}
}

// TestWants: P14.2, it rests till its next window, or halts for ever.
func TestWants(t *testing.T) {
	for _, x := range []struct{ call, state int }{{api.SRest, api.XRests}, {api.SHalt, api.XHalts}} {
		s := seat.Begin(part(1, 1, 1), []string{calls(x.call, 0, stay)}, outs, ins)
		k := kern.Run(s.K, 3)
		for range 3 {
			s = seat.Cycle(part(1, 1, 1), s)
		}
		expect(t, "wants", s, api.Seat{K: k, State: x.state, Boots: 1})
		for range 3 {
			s = seat.Cycle(part(1, 1, 1), s)
		}
		expect(t, "stands still", s, api.Seat{K: k, State: x.state, Boots: 1})
		s = seat.Cycle(part(1, 1, 1), seat.Window(s))
		if x.state == api.XRests {
			expect(t, "goes on", s, api.Seat{K: kern.Step(k), State: api.XRuns, Boots: 1})
		} else {
			expect(t, "is halted", s, api.Seat{K: k, State: api.XHalts, Boots: 1})
		}
	}
}

// over are images of guests that are over behind some cycles, and why.
var over = []struct {
	image     string
	why, when int
}{
	{calls(api.SExit, 5), api.KEnded, 3},
	{image(li(1, 1)), api.KOp, 2},
	{image(li(1, 1), api.Ins{Op: api.OLw, A: 1, B: 1}), api.KFault, 2},
}

// TestOver: P14.2, what is done when the guest is over, by why.
func TestOver(t *testing.T) {
	for _, x := range over {
		for _, act := range []int{api.HRest, api.HHalt, api.HReset, 0, 4, math.MinInt} {
			other := api.HHalt
			if act == other {
				other = api.HReset
			}
			p := part(other, other, other)
			p.Act[x.why-1] = act
			s := seat.Begin(p, []string{x.image}, outs, ins)
			s = seat.Arrive(s, 0, "m")
			k := kern.Run(s.K, x.when)
			if k.Gone != x.why {
				t.Fatal(x, k.Gone)
			}
			for range x.when {
				s = seat.Cycle(p, s)
			}
			want := api.Seat{K: k, State: api.XRuns, Boots: 1}
			switch act {
			case api.HHalt:
				want.State = api.XHalts
			case api.HReset:
				want.K = kern.Boot(128, []string{x.image}, outs, ins, uint64(x.when))
				want.K.In, want.K.Trace = k.In, k.Trace
				want.Boots = 2
			}
			expect(t, "over", s, want)
			after := seat.Cycle(p, s)
			if act == api.HHalt {
				expect(t, "halted", after, want)
			} else if after.K.Now != uint64(x.when)+1 {
				t.Error(after)
			}
		}
	}
}

// TestOddGone: a guest that is over for no reason that there is is left as it is.
func TestOddGone(t *testing.T) {
	for _, gone := range []int{-1, 4, 5, math.MinInt, math.MaxInt} {
		s := seat.Begin(part(3, 3, 3), []string{image(stay)}, outs, ins)
		s.K.Gone = gone
		want := clone(s)
		want.K.Now++
		expect(t, "odd", seat.Cycle(part(3, 3, 3), s), want)
	}
}

// TestReset: the words' list of what is there still behind a reset: what waits, the console, what was answered, what was sent and wanted.
func TestReset(t *testing.T) {
	put := image(li(1, 'c'), li(0, api.SPut), sys, li(0, api.SFork), sys, api.Ins{Op: api.OBeq, A: 0, B: 2, Imm: 3}, li(0, api.SExit), sys, stay)
	p := part(api.HReset, 1, 1)
	s := seat.Begin(p, []string{put, "abc"}, outs, ins)
	s = seat.Arrive(s, 0, "m1")
	s = seat.Arrive(s, 0, "m2")
	s = seat.Arrive(s, 0, "m3")
	for s.Boots == 1 {
		before := s.K
		s = seat.Cycle(p, s)
		if s.Boots == 1 {
			continue
		}
		want := kern.Boot(128, []string{put, "abc"}, outs, ins, before.Now+1)
		want.Cons, want.In, want.Trace = "c", before.In, before.Trace
		expect(t, "reset", s, api.Seat{K: want, State: api.XRuns, Boots: 2})
		if len(s.K.Trace) != 2 || len(s.K.In[0].L) != 2 || s.K.In[0].Lost != 1 {
			t.Error(s)
		}
	}
	for s.Boots < 5 {
		s = seat.Cycle(p, s)
	}
	if s.K.Cons != "cccc" || len(s.K.Trace) != 8 || s.State != api.XRuns {
		t.Error(s)
	}
}

// TestResetSent: what was sent in the very cycle in which the guest ended is there still.
func TestResetSent(t *testing.T) {
	p := part(1, api.HReset, 1)
	s := seat.Begin(p, []string{""}, outs, ins)
	waits := s.K.P[0]
	waits.Pid, waits.Parent, waits.State, waits.Want = 2, 1, api.PWaits, api.Call{N: api.SSend, A: 0, B: 1, C: 2}
	s.K.P = append(s.K.P, waits)
	s = seat.Cycle(p, s)
	if s.Boots != 2 || !slices.Equal(s.K.Sent, []api.Out{{Port: 0, Body: "\x00\x00"}}) || s.K.Gone != api.KLives {
		t.Error(s)
	}
}

// TestArrive: P14.1, at the time of the guest, whatever the seat is.
func TestArrive(t *testing.T) {
	for _, state := range []int{api.XRuns, api.XRests, api.XHalts} {
		s := seat.Begin(part(1, 1, 1), []string{image(stay)}, outs, ins)
		s.State, s.K.Now = state, 77
		want := clone(s)
		want.K.In[0].L = []api.Msg{{At: 77, Body: "m"}}
		got := seat.Arrive(s, 0, "m")
		expect(t, "arrives", got, want)
		expect(t, "too great", seat.Arrive(got, 0, "great"), want)
		for _, n := range []int{-1, 1, math.MinInt, math.MaxInt} {
			expect(t, "no port", seat.Arrive(got, n, "m"), want)
		}
	}
}

// TestSame: P14.1, each field counts.
func TestSame(t *testing.T) {
	s := seat.Begin(part(1, 1, 1), []string{image(stay)}, outs, ins)
	if !seat.Same(s, clone(s)) {
		t.Error("the same")
	}
	for n, change := range []func(*api.Seat){
		func(s *api.Seat) { s.State++ },
		func(s *api.Seat) { s.Boots++ },
		func(s *api.Seat) { s.K.Now++ },
		func(s *api.Seat) { s.K.P[0].C.Pc++ },
	} {
		other := clone(s)
		change(&other)
		if seat.Same(s, other) || seat.Same(other, s) {
			t.Error(n)
		}
	}
}

// TestOwn: what is handed in stays as it was, whatever comes later.
func TestOwn(t *testing.T) {
	p := part(3, 3, 3)
	s := seat.Begin(p, []string{calls(api.SPid, 0)}, outs, ins)
	for c := range 20 {
		before := clone(s)
		for _, x := range []api.Seat{seat.Cycle(p, s), seat.Window(s), seat.Arrive(s, 0, "m"), seat.Arrive(s, 5, "m")} {
			for n := range x.K.P {
				x.K.P[n].Pid = 99
			}
			for n := range x.K.Trace {
				x.K.Trace[n].Pid = 99
			}
			for n := range x.K.Images {
				x.K.Images[n] = "wreck"
			}
			for n := range x.K.In {
				x.K.In[n].Lost = 99
			}
			x.K.Outs[0].Size = 99
		}
		expect(t, "kept", s, before)
		still := s
		still.State = api.XHalts
		seat.Cycle(p, still).K.Images[0] = "wreck"
		expect(t, "kept", s, before)
		if s = seat.Cycle(p, s); c == 9 {
			s = seat.Arrive(s, 0, "m")
		}
	}
	if s.K.Images[0] == "wreck" || outs[0].Size != 8 {
		t.Error(s)
	}
}

// TestExample: the chapter's.
func TestExample(t *testing.T) {
	s := seat.Cycle(part(1, api.HHalt, 1), seat.Begin(part(1, api.HHalt, 1), []string{""}, nil, nil))
	if s.State != api.XHalts || s.Boots != 1 {
		t.Error(s)
	}
	s = seat.Cycle(part(1, api.HReset, 1), seat.Begin(part(1, api.HReset, 1), []string{""}, nil, nil))
	if s.State != api.XRuns || s.Boots != 2 {
		t.Error(s)
	}
	for n := range 5 {
		if s = seat.Cycle(part(1, api.HReset, 1), s); s.Boots != 3+n || s.K.Now != uint64(2+n) {
			t.Error(s)
		}
	}
}
