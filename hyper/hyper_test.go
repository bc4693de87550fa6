package hyper_test

import (
	"math"
	"slices"
	"strings"
	"testing"

	"transom/api"
	"transom/hyper"
	"transom/isa"
	"transom/plan"
	"transom/route"
	"transom/seat"
	"transom/window"
)

func image(l ...api.Ins) string {
	s, e := isa.Bytes(l)
	if e != api.OK {
		panic(e)
	}
	return s
}

func li(a, imm int) api.Ins { return api.Ins{Op: api.OLi, A: a, Imm: imm} }

var sys = api.Ins{Op: api.OSys}

func jmp(imm int) api.Ins { return api.Ins{Op: api.OJmp, Imm: imm} }

// count is an image that counts, and asks for nothing.
var count = image(api.Ins{Op: api.OAddi, A: 1, Imm: 1}, jmp(-1))

// two is the plan of DOC.md's examples, and a second schedule.
func two() api.Plan {
	return api.Plan{
		Parts: []api.Part{{Mem: 64, Act: [3]int{1, 1, 1}}, {Mem: 64, Act: [3]int{1, 1, 1}}},
		Frame: 20,
		Wins: [][]api.Win{
			{{Part: 0, From: 0, Len: 12}, {Part: 1, From: 12, Len: 8}},
			{{Part: 1, From: 1, Len: 9}, {Part: 0, From: 14, Len: 5}},
		},
		Chans: []api.Chan{{Kind: api.CQueue, From: 0, To: 1, Size: 4, Depth: 2}},
	}
}

func begin(t *testing.T, p api.Plan, images ...[]string) api.System {
	t.Helper()
	s, e := hyper.Begin(p, images)
	if e != api.OK {
		t.Fatal(e)
	}
	return s
}

// clone is a machine that shares nothing that a test changes.
func clone(s api.System) api.System {
	s.P.Parts = slices.Clone(s.P.Parts)
	s.P.Wins = slices.Clone(s.P.Wins)
	for n := range s.P.Wins {
		s.P.Wins[n] = slices.Clone(s.P.Wins[n])
	}
	s.P.Chans = slices.Clone(s.P.Chans)
	s.Images = slices.Clone(s.Images)
	for n := range s.Images {
		s.Images[n] = slices.Clone(s.Images[n])
	}
	s.Seats = slices.Clone(s.Seats)
	for n := range s.Seats {
		k := &s.Seats[n].K
		k.P, k.Trace, k.In = slices.Clone(k.P), slices.Clone(k.Trace), slices.Clone(k.In)
		k.Images = slices.Clone(k.Images)
		for m := range k.In {
			k.In[m].L = slices.Clone(k.In[m].L)
		}
	}
	s.Arrived = slices.Clone(s.Arrived)
	for n := range s.Arrived {
		s.Arrived[n] = slices.Clone(s.Arrived[n])
	}
	return s
}

// same is as Same, told anew.
func same(a, b api.System) bool {
	rows := func(x, y []api.Stamp) bool { return slices.Equal(x, y) }
	texts := func(x, y []string) bool { return slices.Equal(x, y) }
	return plan.Same(a.P, b.P) && slices.EqualFunc(a.Images, b.Images, texts) && a.Now == b.Now && a.Sched == b.Sched && a.Next == b.Next && a.Owner == b.Owner &&
		slices.EqualFunc(a.Seats, b.Seats, seat.Same) && slices.EqualFunc(a.Arrived, b.Arrived, rows)
}

func expect(t *testing.T, name string, got, want api.System) {
	t.Helper()
	if !same(got, want) || !hyper.Same(got, want) {
		t.Fatalf("%s:\n got %+v\nwant %+v", name, got, want)
	}
}

// TestBegin: P16.1, a machine that begins.
func TestBegin(t *testing.T) {
	p := two()
	images := [][]string{{count, "a"}, {"b"}, {"of nobody"}}
	want := api.System{P: p, Images: images, Owner: -1, Arrived: make([][]api.Stamp, 2)}
	for n := range 2 {
		want.Seats = append(want.Seats, seat.Begin(p.Parts[n], images[n], route.Outs(p, n), route.Ins(p, n)))
	}
	expect(t, "begin", begin(t, p, images...), want)
	if len(want.Seats[0].K.Outs) != 1 || len(want.Seats[1].K.In) != 1 {
		t.Error(want.Seats)
	}
	want.Images = images[:1]
	want.Seats[1] = seat.Begin(p.Parts[1], nil, nil, p.Chans)
	expect(t, "begin without images", begin(t, p, images[0]), want)
	want.Images = nil
	want.Seats[0] = seat.Begin(p.Parts[0], nil, p.Chans, nil)
	expect(t, "begin without any", begin(t, p), want)
	if want.Seats[0].K.Gone != api.KEnded {
		t.Error(want.Seats[0])
	}
}

// TestBeginRefused: P16.1, a plan that may not be begins nothing.
func TestBeginRefused(t *testing.T) {
	for _, x := range []struct {
		change func(*api.Plan)
		e      api.Errno
	}{
		{func(p *api.Plan) { p.Parts = make([]api.Part, 5) }, api.ErrBig},
		{func(p *api.Plan) { p.Parts = nil }, api.ErrArg},
		{func(p *api.Plan) { p.Frame = 19 }, api.ErrArg},
		{func(p *api.Plan) { p.Wins[0][1].From = 11 }, api.ErrState},
		{func(p *api.Plan) { p.Wins[0][1] = api.Win{Part: 1, From: 12, Len: 2} }, api.ErrArg},
		{func(p *api.Plan) { p.Chans[0].To = 0 }, api.ErrArg},
	} {
		p := two()
		x.change(&p)
		if s, e := hyper.Begin(p, [][]string{{count}}); e != x.e || !same(s, api.System{}) {
			t.Errorf("%v: %v %d", p, s, e)
		}
	}
}

// TestClocks: P16.2 and P16.3, who goes on in a cycle, and how far each clock is: just what the windows grant.
func TestClocks(t *testing.T) {
	for sched := range 2 {
		s := begin(t, two(), []string{count}, []string{count})
		s.Sched, s.Next = sched, sched
		for c := range uint64(70) {
			if s.Now != c || s.Sched != sched {
				t.Fatal(s)
			}
			for part := range 2 {
				if got, want := s.Seats[part].K.Now, window.Granted(two(), sched, part, c); got != want {
					t.Fatalf("%d, %d at %d: %d, not %d", sched, part, c, got, want)
				}
			}
			owner := -1
			if who, how := window.At(two(), sched, c); how == api.GOwn {
				owner = who
			}
			want := clone(s)
			want.Now++
			want.Owner = owner
			if owner >= 0 {
				want.Seats[owner] = seat.Cycle(two().Parts[owner], s.Seats[owner])
			}
			s = hyper.Step(s)
			expect(t, "step", s, want)
		}
	}
}

// TestRun: P16.1, as many Steps.
func TestRun(t *testing.T) {
	sends := image(li(3, 2), li(0, api.SSend), sys, li(0, api.SRest), sys, jmp(-4))
	s := begin(t, two(), []string{sends}, []string{image(li(0, api.SRecv), sys, li(1, 'c'), li(0, api.SPut), sys, jmp(0))})
	step := s
	for n := range 90 {
		expect(t, "run", hyper.Run(s, n), step)
		step = hyper.Step(step)
	}
	for _, n := range []int{-1, math.MinInt} {
		expect(t, "none", hyper.Run(s, n), s)
	}
	expect(t, "some and some more", hyper.Run(hyper.Run(s, 33), 40), hyper.Run(s, 73))
	if k := step.Seats[1].K; k.Cons != "c" || len(k.Trace) != 2 {
		t.Error(k)
	}
}

// TestSend: P16.2, a message arrives at once, at the time of the one to whom it comes.
func TestSend(t *testing.T) {
	p := two()
	p.Parts = append(p.Parts, p.Parts[0])
	p.Chans = []api.Chan{
		{Kind: api.CQueue, From: 2, To: 1, Size: 4, Depth: 2},
		{Kind: api.CQueue, From: 0, To: 2, Size: 4, Depth: 2},
		{Kind: api.CSample, From: 0, To: 1, Size: 4, Depth: 1},
	}
	send := image(li(1, 1), li(3, 2), li(0, api.SSend), sys, jmp(-2))
	s := begin(t, p, []string{send}, []string{count}, []string{count})
	s.Seats[1].K.Now = 500
	s = hyper.Run(s, 5)
	if len(s.Arrived[1]) != 0 {
		t.Error(s.Arrived)
	}
	s = hyper.Step(s)
	body := send[:2]
	want := []api.Stamp{{At: 500, Port: 1, Body: body}}
	if !slices.Equal(s.Arrived[1], want) || len(s.Arrived[0])+len(s.Arrived[2]) != 0 {
		t.Error(s.Arrived)
	}
	in := s.Seats[1].K.In
	if len(in) != 2 || len(in[0].L) != 0 || !slices.Equal(in[1].L, []api.Msg{{At: 500, Body: body}}) {
		t.Error(in)
	}
	s = hyper.Run(s, 6)
	want = append(want, want[0], want[0])
	if !slices.Equal(s.Arrived[1], want) {
		t.Error(s.Arrived)
	}
}

// TestSendMore: P16.2, what doesn't fit is stamped too, and lost; the stamps stand in order.
func TestSendMore(t *testing.T) {
	send := image(li(3, 2), li(0, api.SSend), sys, jmp(-2))
	s := hyper.Run(begin(t, two(), []string{send}, []string{count}), 12)
	k := s.Seats[1].K
	if len(s.Arrived[1]) != 3 || len(k.In[0].L) != 2 || k.In[0].Lost != 1 {
		t.Error(s.Arrived, k.In)
	}
	s = hyper.Run(s, 20)
	for n, x := range s.Arrived[1] {
		at := uint64(0)
		if n > 2 {
			at = 6
		}
		if x != (api.Stamp{At: at, Port: 0, Body: send[:2]}) {
			t.Error(n, x)
		}
	}
}

// TestRests: P16.2, who rests goes on at the beginning of its next window, and gives its cycles to nobody.
func TestRests(t *testing.T) {
	p := two()
	p.Wins[0] = []api.Win{{Part: 0, From: 0, Len: 6}, {Part: 1, From: 6, Len: 6}, {Part: 0, From: 12, Len: 6}}
	s := begin(t, p, []string{image(li(0, api.SRest), sys, jmp(-2))}, []string{count})
	for c := range uint64(60) {
		s = hyper.Step(s)
		f := c % 20
		state := api.XRuns
		if c == 3 || f >= 4 && f < 12 || f >= 16 { // in all windows but the first one the jump back comes first
			state = api.XRests
		}
		if s.Seats[0].State != state {
			t.Fatal(c, s.Seats[0])
		}
		if s.Seats[1].K.Now != window.Granted(p, 0, 1, c+1) {
			t.Fatal(c, s.Seats[1].K.Now)
		}
	}
	if got := s.Seats[0].K.Now; got >= window.Granted(p, 0, 0, 60) || got != 2+5*3 {
		t.Error(got)
	}
}

// TestRestOpens: a window's beginning opens that one's seat alone, a cycle of its own none.
func TestRestOpens(t *testing.T) {
	for c := range uint64(40) {
		s := begin(t, two(), []string{count}, []string{count})
		s.Now = c
		s.Seats[0].State, s.Seats[1].State = api.XRests, api.XRests
		got := hyper.Step(s)
		for part := range 2 {
			state := api.XRests
			if c%20 == uint64(12*part) {
				state = api.XRuns
			}
			if got.Seats[part].State != state || got.Seats[part].K.Now != 0 {
				t.Error(c, part, got.Seats[part])
			}
		}
	}
}

// TestHalts: P16.2, who is halted stays so, and the others' windows are as they were.
func TestHalts(t *testing.T) {
	s := hyper.Run(begin(t, two(), []string{image(li(0, api.SHalt), sys)}, []string{count}), 200)
	if s.Seats[0].State != api.XHalts || s.Seats[0].K.Now != 2 || s.Seats[1].K.Now != 60 || s.Seats[1].State != api.XRuns {
		t.Error(s.Seats)
	}
}

// TestModes: P16.2, the partition 0 may ask for a schedule; it changes at the end of a frame alone.
func TestModes(t *testing.T) {
	ask := func(a int) string { return image(li(1, a), li(0, api.SMode), sys, jmp(0)) }
	s := begin(t, two(), []string{ask(1)}, []string{count})
	for c := range uint64(100) {
		next, sched := 0, 0
		if c >= 5 {
			next = 1
		}
		if c >= 20 {
			sched = 1
		}
		if s.Next != next || s.Sched != sched {
			t.Fatal(c, s.Next, s.Sched)
		}
		s = hyper.Step(s)
	}
	if got, want := s.Seats[1].K.Now, uint64(6+4*7); got != want {
		t.Error(got)
	}
	s = hyper.Run(begin(t, two(), []string{ask(2)}, []string{ask(1)}), 90)
	if s.Next != 0 || s.Sched != 0 || s.Seats[0].K.Trace[0].R != 0 || s.Seats[1].K.Trace[0].R != 0 {
		t.Error(s)
	}
	s = begin(t, two(), []string{ask(0)}, []string{count})
	s.Sched, s.Next = 1, 1
	s = hyper.Run(s, 40)
	if s.Next != 0 || s.Sched != 0 || s.Seats[0].K.Trace[0].At != 2 {
		t.Error(s)
	}
	three := two()
	three.Wins = append(three.Wins, nil)
	s = hyper.Run(begin(t, three, []string{ask(2)}, []string{count}), 100)
	if s.Next != 2 || s.Sched != 2 || s.Seats[0].K.Now != 10 || s.Owner != -1 {
		t.Error(s)
	}
}

// TestModeInLastCycle: what is asked for in the last cycle of a frame is there in the next one.
func TestModeInLastCycle(t *testing.T) {
	p := two()
	p.Wins[0] = []api.Win{{Part: 0, From: 15, Len: 5}}
	s := hyper.Run(begin(t, p, []string{image(li(1, 1), li(0, api.SMode), sys)}, []string{count}), 19)
	if s.Next != 0 || s.Sched != 0 {
		t.Error(s)
	}
	if s = hyper.Step(s); s.Next != 1 || s.Sched != 1 || s.Now != 20 {
		t.Error(s)
	}
}

// TestOthersUntouched: T2, what another partition does changes nothing of one without channels to it.
func TestOthersUntouched(t *testing.T) {
	p := two()
	p.Wins = p.Wins[:1]
	p.Chans = nil
	busy := image(li(0, api.SPid), sys, li(1, 3), li(0, api.SSleep), sys, jmp(-5))
	var first api.Seat
	for n, other := range []string{count, "", image(li(0, api.SHalt), sys), image(li(0, api.SRest), sys), image(li(0, api.SMode), sys), busy} {
		s := hyper.Run(begin(t, p, []string{other}, []string{busy}), 300)
		if n == 0 {
			first = s.Seats[1]
		}
		if !seat.Same(s.Seats[1], first) {
			t.Error(n)
		}
	}
}

// TestSame: P16.1, each field counts.
func TestSame(t *testing.T) {
	s := hyper.Run(begin(t, two(), []string{image(li(3, 2), li(0, api.SSend), sys)}, []string{count}), 10)
	if !hyper.Same(s, clone(s)) || !hyper.Same(api.System{}, api.System{Seats: []api.Seat{}, Images: [][]string{}}) {
		t.Error("the same")
	}
	for n, change := range []func(*api.System){
		func(s *api.System) { s.P.Frame++ },
		func(s *api.System) { s.P.Wins[1][0].Len-- },
		func(s *api.System) { s.Images[1][0] = "x" },
		func(s *api.System) { s.Images[1] = nil },
		func(s *api.System) { s.Images = s.Images[:1] },
		func(s *api.System) { s.Now++ },
		func(s *api.System) { s.Sched++ },
		func(s *api.System) { s.Next++ },
		func(s *api.System) { s.Seats[1].Boots++ },
		func(s *api.System) { s.Seats[0].K.Now++ },
		func(s *api.System) { s.Seats = s.Seats[:1] },
		func(s *api.System) { s.Arrived[1][0].At++ },
		func(s *api.System) { s.Arrived[1] = nil },
		func(s *api.System) { s.Arrived = s.Arrived[:1] },
		func(s *api.System) { s.Owner++ },
	} {
		other := clone(s)
		change(&other)
		if hyper.Same(s, other) || hyper.Same(other, s) {
			t.Error(n)
		}
	}
}

// TestOdd: R1, machines that no Begin tells go on as far as they can.
func TestOdd(t *testing.T) {
	for _, frame := range []int{0, -1, -20, 20, math.MinInt, math.MaxInt, 5000} {
		p := two()
		p.Frame = frame
		for _, now := range []uint64{0, 18, 19, 1<<63 - 1, math.MaxUint64} {
			s := api.System{P: p, Now: now, Next: 7, Owner: 5}
			got := hyper.Step(s)
			sched := 0
			size := uint64(frame)
			if frame < 0 {
				size = -size
			}
			if now+1 == 0 || size > 0 && (now+1)%size == 0 {
				sched = 7
			}
			if got.Now != now+1 || got.Sched != sched || got.Next != 7 || len(got.Seats) != 0 {
				t.Error(frame, now, got)
			}
		}
	}
	s := begin(t, two(), []string{image(li(3, 2), li(0, api.SSend), sys)}, []string{count})
	for _, x := range []api.System{
		{P: s.P, Seats: s.Seats[:1], Arrived: s.Arrived},
		{P: s.P, Seats: s.Seats, Arrived: s.Arrived[:1]},
		{P: s.P, Seats: s.Seats[:1]},
		{P: s.P, Seats: s.Seats, Arrived: s.Arrived, Sched: 9},
		{P: s.P, Seats: s.Seats, Arrived: s.Arrived, Sched: -1},
		{Seats: s.Seats, Arrived: s.Arrived},
	} {
		if got := hyper.Run(x, 30); got.Now != 30 {
			t.Error(got)
		}
	}
}

// TestOwn: what is handed in stays as it was, whatever comes later.
func TestOwn(t *testing.T) {
	send := image(li(3, 2), li(0, api.SSend), sys, jmp(-2))
	images := [][]string{{send}, {count}}
	p := two()
	s := begin(t, p, images...)
	for range 40 {
		before := clone(s)
		wreck(hyper.Step(s))
		wreck(hyper.Run(s, 13))
		wreck(hyper.Run(s, 0))
		expect(t, "kept", s, before)
		s = hyper.Step(s)
	}
	wreck(begin(t, p, images...))
	if images[0][0] != send || !plan.Same(p, two()) {
		t.Error(images, p)
	}
}

// wreck writes into all of a machine.
func wreck(s api.System) {
	for n := range s.Seats {
		k := &s.Seats[n].K
		for m := range k.P {
			k.P[m].Pid = 99
		}
		for m := range k.Trace {
			k.Trace[m].Pid = 99
		}
		for m := range k.In {
			for i := range k.In[m].L {
				k.In[m].L[i].Body = "wreck"
			}
			k.In[m].Lost = 99
		}
		k.Images[0] = "wreck"
		s.Seats[n].Boots = 99
	}
	for n := range s.Images {
		s.Images[n][0] = "wreck"
		s.Images[n] = nil
	}
	for n := range s.Arrived {
		for m := range s.Arrived[n] {
			s.Arrived[n][m].Body = "wreck"
		}
		s.Arrived[n] = nil
	}
	for n := range s.P.Wins {
		s.P.Wins[n][0].Len = 99
		s.P.Wins[n] = nil
	}
	s.P.Parts[0].Mem, s.P.Chans[0].Size = 1, 1
}

// TestTen: DOC.md's ten examples of the whole.
func TestTen(t *testing.T) {
	p := two()
	p.Wins = p.Wins[:1]
	for _, x := range []struct {
		c        uint64
		who, how int
	}{{0, 0, api.GSwitch}, {2, 0, api.GOwn}, {14, 1, api.GOwn}} {
		if who, how := window.At(p, 0, x.c); who != x.who || how != x.how {
			t.Error(x, who, how)
		}
	}
	if a, b := window.Frame(p, 0, 0, 20), window.Frame(p, 0, 1, 20); a != 10 || b != 6 {
		t.Error(a, b)
	}
	s := hyper.Run(begin(t, p, []string{image(api.Ins{Op: api.OLui, A: 2}, li(3, 2), li(0, 15), sys)}, []string{image(li(2, 60), li(3, 4), li(0, 16), sys)}), 6)
	if len(s.Arrived[1]) != 1 || s.Arrived[1][0].At != 0 || len(s.Arrived[1][0].Body) != 2 {
		t.Error(s.Arrived)
	}
	s = hyper.Run(s, 12)
	if tr := s.Seats[1].K.Trace; len(tr) != 1 || tr[0].R != 2 {
		t.Error(tr)
	}
	s = hyper.Run(begin(t, p, []string{image(li(0, 19), sys)}, []string{count}), 4)
	if s.Seats[0].State != api.XHalts {
		t.Error(s.Seats[0])
	}
	if s = hyper.Run(s, 16); s.Seats[1].K.Now != 6 {
		t.Error(s.Seats[1])
	}
	p.Parts[0].Act[1] = api.HReset
	for c := range 10 {
		s = hyper.Run(begin(t, p, []string{""}, nil), 2+c)
		if s.Seats[0].Boots != 1+c {
			t.Error(c, s.Seats[0])
		}
	}
	s = hyper.Run(begin(t, two(), []string{image(li(1, 3), li(0, 8), sys)}, nil), 12)
	if tr := s.Seats[0].K.Trace; tr[0] != (api.Event{Pid: 1, N: api.SSleep, R: 0, At: 5}) {
		t.Error(tr)
	}
	p = two()
	p.Wins[0][1].Len = 2
	if _, e := hyper.Begin(p, nil); e != api.ErrArg {
		t.Error(e)
	}
}

// TestExample: the chapter's.
func TestExample(t *testing.T) {
	p := api.Plan{Parts: two().Parts[:1], Frame: 10, Wins: [][]api.Win{{{Part: 0, From: 0, Len: 10}}}}
	s := hyper.Run(begin(t, p, []string{count}), 10)
	if s.Seats[0].K.Now != 8 {
		t.Error(s.Seats[0].K.Now)
	}
	if !strings.HasPrefix(s.Seats[0].K.P[0].Mem, count) {
		t.Error(s.Seats[0].K.P)
	}
}
