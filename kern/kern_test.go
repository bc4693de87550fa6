package kern_test

import (
	"math"
	"slices"
	"strings"
	"testing"

	"transom/api"
	"transom/kern"
)

// TestBoot: P13.1, all fields of a guest that begins.
func TestBoot(t *testing.T) {
	outs := []api.Chan{{Kind: api.CQueue, To: 1, Size: 4, Depth: 2}}
	ins := []api.Chan{{Kind: api.CQueue, From: 1, Size: 4, Depth: 2}, {Kind: api.CSample, From: 1, Size: 4, Depth: 1}}
	images := []string{"abc", "d"}
	want := api.Kern{
		P:      []api.Proc{{Pid: 1, State: api.PReady, Mem: "abc" + strings.Repeat("\x00", 61)}},
		T:      api.Turn{L: []int{1}, Left: 5},
		H:      api.Heap{Size: 100, L: []api.Span{{At: 0, N: 64, Who: 1}}},
		Now:    7,
		Images: images,
		Outs:   outs,
		Ins:    ins,
		In:     make([]api.Box, 2),
	}
	expect(t, "boot", kern.Boot(100, images, outs, ins, 7), want)
	full := strings.Repeat("f", 64)
	k := kern.Boot(64, []string{full}, nil, nil, math.MaxUint64)
	if k.Gone != api.KLives || k.P[0].Mem != full || k.Now != math.MaxUint64 || len(k.In) != 0 {
		t.Error(k)
	}
}

// TestBootRefused: P13.1, no image, one that is too long, no room: the guest is over.
func TestBootRefused(t *testing.T) {
	ins := make([]api.Chan, 3)
	for n, x := range []struct {
		mem    int
		images []string
		size   int
	}{
		{1024, nil, 1024},
		{1024, []string{strings.Repeat("f", 65), "abc"}, 1024},
		{63, []string{"abc"}, 63},
		{0, []string{"abc"}, 0},
		{-1, []string{"abc"}, 0},
		{math.MinInt, []string{"abc"}, 0},
		{-1, nil, 0},
	} {
		want := api.Kern{H: api.Heap{Size: x.size}, Now: 9, Images: x.images, Outs: ins[:1], Ins: ins, In: make([]api.Box, 3), Gone: api.KEnded}
		got := kern.Boot(x.mem, x.images, ins[:1], ins, 9)
		if !kern.Same(got, want) || !same(got, want) {
			t.Errorf("%d: %+v", n, got)
		}
	}
}

// TestArrive: P13.1, into the box of a port, as chapter 7 sends; nowhere, if there is no such port.
func TestArrive(t *testing.T) {
	k := family(0)
	want := clone(k)
	want.In[0].L = []api.Msg{{At: 55, Body: "one"}}
	k = kern.Arrive(k, 0, "one", 55)
	expect(t, "queue", k, want)
	want.In[0].L = append(want.In[0].L, api.Msg{At: 56})
	k = kern.Arrive(k, 0, "", 56)
	expect(t, "queue, two", k, want)
	want.In[0].Lost = 1
	k = kern.Arrive(k, 0, "lost", 57)
	expect(t, "queue, lost", k, want)
	k = kern.Arrive(k, 0, "great", 58)
	expect(t, "queue, great", k, want)
	for _, body := range []string{"a", strings.Repeat("s", 32)} {
		want.In[1].L = []api.Msg{{At: 59, Body: body}}
		k = kern.Arrive(k, 1, body, 59)
		expect(t, "sample", k, want)
	}
	k = kern.Arrive(k, 1, strings.Repeat("s", 33), 60)
	expect(t, "sample, great", k, want)
	for _, n := range []int{-1, 2, math.MinInt, math.MaxInt} {
		expect(t, "no port", kern.Arrive(k, n, "a", 61), want)
	}
	over := clone(k)
	over.Gone, over.In[1].L = api.KFault, nil
	want = clone(over)
	want.In[1].L = []api.Msg{{At: 62, Body: "b"}}
	expect(t, "over", kern.Arrive(over, 1, "b", 62), want)
}

// TestRun: P13.1, as many Steps.
func TestRun(t *testing.T) {
	k := kern.Boot(1024, []string{image(li(0, api.SPid), sys, jmp(-2))}, nil, nil, 0)
	step := k
	for n := range 60 {
		expect(t, "run", kern.Run(k, n), step)
		step = kern.Step(step)
	}
	for _, n := range []int{-1, math.MinInt} {
		expect(t, "none", kern.Run(k, n), k)
	}
	expect(t, "some and some more", kern.Run(kern.Run(k, 17), 25), kern.Run(k, 42))
}

// TestSame: P13.1, each field counts.
func TestSame(t *testing.T) {
	k := family(0, 1)
	k.S = []api.Alarm{{At: 5, Pid: 2}}
	k.Pipes = []api.Pipe{{Data: "a", Readers: 1}}
	k.In[0].L = []api.Msg{{At: 1, Body: "m"}}
	k.Trace = []api.Event{{Pid: 1, N: 2, R: 3, At: 4}}
	k.Sent = []api.Out{{Port: 1, Body: "o"}}
	if !kern.Same(k, clone(k)) || !kern.Same(api.Kern{}, api.Kern{P: []api.Proc{}, S: []api.Alarm{}, In: []api.Box{}}) {
		t.Error("the same")
	}
	for n, change := range []func(*api.Kern){
		func(k *api.Kern) { k.P[1].C.R[3]++ },
		func(k *api.Kern) { k.P[1].Mem = "" },
		func(k *api.Kern) { k.P = k.P[:1] },
		func(k *api.Kern) { k.T.Left++ },
		func(k *api.Kern) { k.T.L[1]++ },
		func(k *api.Kern) { k.S[0].At++ },
		func(k *api.Kern) { k.S = nil },
		func(k *api.Kern) { k.Pipes[0].Writers++ },
		func(k *api.Kern) { k.Pipes = append(k.Pipes, api.Pipe{}) },
		func(k *api.Kern) { k.H.Size++ },
		func(k *api.Kern) { k.H.L[0].Who++ },
		func(k *api.Kern) { k.H.L = k.H.L[:1] },
		func(k *api.Kern) { k.Now++ },
		func(k *api.Kern) { k.Images[1] = "" },
		func(k *api.Kern) { k.Images = k.Images[:2] },
		func(k *api.Kern) { k.Outs[1].Size++ },
		func(k *api.Kern) { k.Outs = k.Outs[:1] },
		func(k *api.Kern) { k.Ins[1].Depth++ },
		func(k *api.Kern) { k.Ins = k.Ins[:1] },
		func(k *api.Kern) { k.In[0].L[0].At++ },
		func(k *api.Kern) { k.In[1].Lost++ },
		func(k *api.Kern) { k.In = k.In[:1] },
		func(k *api.Kern) { k.Cons = "c" },
		func(k *api.Kern) { k.Trace[0].R++ },
		func(k *api.Kern) { k.Trace = nil },
		func(k *api.Kern) { k.Sent[0].Body = "" },
		func(k *api.Kern) { k.Sent = nil },
		func(k *api.Kern) { k.Want++ },
		func(k *api.Kern) { k.Gone++ },
	} {
		other := clone(k)
		change(&other)
		if kern.Same(other, k) || kern.Same(k, other) {
			t.Errorf("%d: %+v", n, other)
		}
	}
}

// TestClock: P13.2, one more with each step, not above the greatest number; what the last cycle sent and wanted is gone.
func TestClock(t *testing.T) {
	for _, gone := range []int{api.KLives, api.KEnded, api.KOp, api.KFault, 9, -1} {
		for _, now := range []uint64{0, 5, math.MaxUint64 - 1, math.MaxUint64} {
			k := api.Kern{Now: now, Gone: gone, Sent: []api.Out{{Port: 1}}, Want: api.WHalt, Cons: "c", Trace: []api.Event{{Pid: 1}}}
			want := api.Kern{Now: now, Gone: gone, Cons: "c", Trace: k.Trace}
			if now < math.MaxUint64 {
				want.Now++
			}
			expect(t, "clock", kern.Step(k), want)
		}
	}
}

// TestOver: P13.2, of a guest that is over nothing goes on but the clock.
func TestOver(t *testing.T) {
	k := asking(t, family(0, 1), 1, api.SPut, 'x')
	k.S = []api.Alarm{{At: 0, Pid: 2}}
	k.Gone = api.KEnded
	want := clone(k)
	want.Now++
	expect(t, "over", kern.Step(k), want)
}

// TestQuantum: P13.2, each has five cycles; an instruction takes one, whatever it is.
func TestQuantum(t *testing.T) {
	count := image(api.Ins{Op: api.OAddi, A: 1, Imm: 1}, api.Ins{Op: api.OSb, A: 1, B: 0, Imm: 40}, jmp(-2))
	k := family(0, 1, 1)
	for n := range k.P {
		k.P[n].Mem = count + strings.Repeat("\x00", 52)
	}
	order := []int{1, 2, 3}
	for c := range 60 {
		if first := k.T.L[0]; first != order[c/5%3] || k.T.Left != 5-c%5 {
			t.Fatal(c, k.T)
		}
		k = kern.Step(k)
	}
	for _, p := range k.P {
		if p.C.R[1] != 7 || p.Mem[40] != 7 || p.C.Pc != 8 {
			t.Error(p)
		}
	}
}

// TestFails: P13.2, by no instruction, or by no place in memory: a child is dead, the first process ends the guest.
func TestFails(t *testing.T) {
	fault := image(api.Ins{Op: api.OLw, A: 1, B: 1, Imm: 64})
	for _, x := range []struct {
		mem        string
		pc         uint32
		told, gone int
	}{
		{"\x00\x00\x00\x00", 0, 1, api.KOp},
		{"abcd", 0, 1, api.KOp},
		{fault, 0, 2, api.KFault},
		{fault, 4, 2, api.KFault},
		{fault, 1, 2, api.KFault},
		{fault, most, 2, api.KFault},
	} {
		k := family(0, 1, 2)
		k.T.Left = 3
		k.P[0].Mem, k.P[0].C.Pc = x.mem, x.pc
		want := api.Kern{H: api.Heap{Size: 1024}, Now: 101, Images: k.Images, Outs: k.Outs, Ins: k.Ins, In: k.In, Gone: x.gone}
		expect(t, "the first process", kern.Step(k), want)

		k = family(0, 1, 2)
		k.P[1].Mem, k.P[1].C.Pc, k.P[1].C.R[5] = x.mem, x.pc, 55
		k.T = api.Turn{L: []int{2, 1, 3}, Left: 3}
		want = clone(k)
		want.P[1].State, want.P[1].Code = api.PDead, 128+x.told
		want.P[2].Parent = 1
		want.T = api.Turn{L: []int{1, 3}, Left: 5}
		want.H.L = slices.Delete(want.H.L, 1, 2)
		want.Now++
		expect(t, "a child", kern.Step(k), want)
	}
}

// TestWake: P13.2, those that are due are answered in order, and have a turn; who doesn't sleep is only told no more.
func TestWake(t *testing.T) {
	k := family(0, 1, 1, 1)
	for pid := 2; pid < 5; pid++ {
		k = state(t, k, pid, api.PSleeps, api.Call{N: api.SSleep, A: uint32(pid)})
	}
	k.S = []api.Alarm{{At: 98, Pid: 3}, {At: 99, Pid: 1}, {At: 99, Pid: 9}, {At: 100, Pid: 2}, {At: 101, Pid: 4}}
	k.P[0].Mem = image(jmp(0))
	want := clone(k)
	for _, n := range []int{2, 1} {
		p := &want.P[n]
		p.State, p.Want = api.PReady, api.Call{}
		want.Trace = append(want.Trace, api.Event{Pid: n + 1, N: api.SSleep, R: 0, At: 100})
		want.T.L = append(want.T.L, n+1)
	}
	want.S = want.S[4:]
	want.T.Left = 4
	want.Now++
	got := kern.Step(k)
	expect(t, "wake", got, want)
	want.P[3].State, want.P[3].Want = api.PReady, api.Call{}
	want.Trace = append(want.Trace, api.Event{Pid: 4, N: api.SSleep, R: 0, At: 101})
	want.T.L, want.T.Left = append(want.T.L, 4), 3
	want.S, want.Now = nil, 102
	expect(t, "wake the last one", kern.Step(got), want)
}

// TestWakeAlone: P13.2, who wakes while nobody has a turn goes on in the same cycle.
func TestWakeAlone(t *testing.T) {
	k := state(t, family(0), 1, api.PSleeps, api.Call{N: api.SSleep, A: 9})
	k.P[0].Mem = image(li(3, 33))
	k.P[0].C.R[0] = 8
	k.S = []api.Alarm{{At: 101, Pid: 1}}
	k = kern.Step(k)
	if len(k.Trace) != 0 || k.P[0].State != api.PSleeps || k.Now != 101 {
		t.Error(k)
	}
	k = kern.Step(k)
	p := k.P[0]
	if !slices.Equal(k.Trace, []api.Event{{Pid: 1, N: api.SSleep, R: 0, At: 101}}) || p.State != api.PReady || p.C.R[0] != 0 || p.C.R[3] != 33 || k.T.Left != 4 {
		t.Error(k)
	}
}

// TestRetry: P13.2, those that wait are tried by rising numbers, once a cycle, ahead of whose turn it is.
func TestRetry(t *testing.T) {
	k := family(0, 1, 1, 1)
	k.Pipes = []api.Pipe{{Data: "xyz", Readers: 3, Writers: 1}}
	for pid := 2; pid < 5; pid++ {
		k = state(t, k, pid, api.PWaits, api.Call{N: api.SRead, A: 0, B: uint32(20 + pid), C: 2})
		k.P[pid-1].Fds[0] = api.End{Pipe: 1}
	}
	k.P[0].Mem = image(jmp(0))
	want := clone(k)
	for _, x := range []struct {
		pid int
		s   string
	}{{2, "xy"}, {3, "z"}} {
		p := &want.P[x.pid-1]
		p.State, p.Want, p.C.R[0] = api.PReady, api.Call{}, uint32(len(x.s))
		p.Mem = p.Mem[:20+x.pid] + x.s + p.Mem[20+x.pid+len(x.s):]
		want.T.L = append(want.T.L, x.pid)
		want.Trace = append(want.Trace, api.Event{Pid: x.pid, N: api.SRead, R: uint32(len(x.s)), At: 100})
	}
	want.Pipes[0].Data = ""
	want.T.Left = 4
	want.Now++
	expect(t, "retry", kern.Step(k), want)
}

// TestRetrySeesEarlier: P13.2, what one that waited does the later ones meet in the same cycle, the earlier ones not till the next.
func TestRetrySeesEarlier(t *testing.T) {
	for _, x := range []struct{ reads, writes int }{{2, 3}, {3, 2}} {
		k := family(0, 1, 1)
		k.Pipes = []api.Pipe{{Data: "12345678", Readers: 1, Writers: 1}}
		k = state(t, k, x.reads, api.PWaits, api.Call{N: api.SRead, A: 1, B: 30, C: 8})
		k = state(t, k, x.writes, api.PWaits, api.Call{N: api.SWrite, A: 1, B: 4, C: 3})
		k.P[x.reads-1].Fds[1] = api.End{Pipe: 1}
		k.P[x.writes-1].Fds[1] = api.End{Pipe: 1, Writes: true}
		k.P[0].Mem = image(jmp(0))
		k = kern.Step(k)
		wrote := k.P[x.writes-1].State == api.PReady
		if k.P[x.reads-1].State != api.PReady || wrote != (x.reads < x.writes) {
			t.Error(x, k)
		}
		k = kern.Step(k)
		if k.P[x.writes-1].State != api.PReady || k.Pipes[0].Data != "abc" {
			t.Error(x, k)
		}
	}
}

// TestAlone: P13.6, the clock and nothing else goes on where nobody is ready.
func TestAlone(t *testing.T) {
	k := state(t, family(0, 1), 1, api.PWaits, api.Call{N: api.SWait})
	k = state(t, k, 2, api.PSleeps, api.Call{N: api.SSleep, A: 9})
	k.S = []api.Alarm{{At: 110, Pid: 2}}
	want := clone(k)
	want.Now = 105
	expect(t, "alone", kern.Run(k, 5), want)
}

// TestExample: the chapter's.
func TestExample(t *testing.T) {
	k := kern.Boot(64, []string{image(li(0, 6), sys)}, nil, nil, 0)
	k = kern.Step(k)
	if len(k.Trace) != 0 {
		t.Error(k.Trace)
	}
	k = kern.Step(k)
	if !slices.Equal(k.Trace, []api.Event{{Pid: 1, N: api.SPid, R: 1, At: 1}}) {
		t.Error(k.Trace)
	}
}
