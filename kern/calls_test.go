package kern_test

import (
	"math"
	"slices"
	"testing"

	"transom/api"
	"transom/kern"
)

// plain holds calls against their answers where they have no other effect.
func plain(t *testing.T, k api.Kern, pid int, v uint32, call ...uint32) {
	t.Helper()
	k = asking(t, k, pid, call...)
	k.Sent, k.Want = []api.Out{{Port: 1}}, api.WHalt
	expect(t, "plain", kern.Step(k), called(t, k, pid, v))
}

// refused holds calls against errors.
func refused(t *testing.T, k api.Kern, pid int, e api.Errno, call ...uint32) {
	t.Helper()
	plain(t, k, pid, value(e), call...)
}

// dies is a guest behind the end of one of its processes that isn't the first one.
func dies(t *testing.T, k api.Kern, pid, code int) api.Kern {
	t.Helper()
	k = clone(k)
	p := proc(t, k, pid)
	for _, e := range p.Fds {
		if e.Pipe > 0 && e.Writes {
			k.Pipes[e.Pipe-1].Writers--
		} else if e.Pipe > 0 {
			k.Pipes[e.Pipe-1].Readers--
		}
	}
	if len(k.T.L) > 0 && k.T.L[0] == pid {
		k.T.Left = 5
	}
	k.T.L = slices.DeleteFunc(k.T.L, func(n int) bool { return n == pid })
	k.S = slices.DeleteFunc(k.S, func(a api.Alarm) bool { return a.Pid == pid })
	k.H.L = slices.DeleteFunc(k.H.L, func(s api.Span) bool { return s.Who == pid })
	for n := range k.P {
		if k.P[n].Parent == pid {
			k.P[n].Parent = 1
		}
	}
	at := place(t, k, pid)
	parent := slices.IndexFunc(k.P, func(x api.Proc) bool { return x.Pid == p.Parent })
	if parent < 0 || k.P[parent].State == api.PDead {
		k.P = slices.Delete(k.P, at, at+1)
		return k
	}
	k.P[at].State, k.P[at].Code, k.P[at].Fds = api.PDead, code, [api.MaxFds]api.End{}
	return k
}

// TestExit: P13.3, it ends with a code modulo 256; nothing is answered.
func TestExit(t *testing.T) {
	for _, a := range []uint32{0, 3, 255, 256, 259, most} {
		k := asking(t, family(0, 1, 2, 2), 2, api.SExit, a)
		want := dies(t, k, 2, int(a%256))
		want.P[1].C.Pc = 4
		want.Now++
		expect(t, "a child", kern.Step(k), want)
		k = asking(t, family(0, 1, 2), 1, api.SExit, a)
		k.S, k.Pipes, k.Cons, k.In[0].L = []api.Alarm{{At: 500, Pid: 2}}, []api.Pipe{{Readers: 1}}, "c", []api.Msg{{Body: "m"}}
		k.Trace = []api.Event{{Pid: 1}}
		over := api.Kern{H: api.Heap{Size: 1024}, Now: 101, Images: k.Images, Outs: k.Outs, Ins: k.Ins, In: k.In, Cons: "c", Trace: k.Trace, Gone: api.KEnded}
		expect(t, "the first process", kern.Step(k), over)
	}
}

// TestEnds: a process that ends has no ends, no room, no turn, no alarm; its children are the first one's.
func TestEnds(t *testing.T) {
	k := family(0, 1, 2, 3, 2)
	k.Pipes = []api.Pipe{{Data: "d", Readers: 5, Writers: 5}, {Readers: 5, Writers: 5}}
	k.P[1].Fds = [api.MaxFds]api.End{{Pipe: 1}, {}, {Pipe: 2, Writes: true}, {Pipe: 1, Writes: true}}
	k.P[2].Fds = [api.MaxFds]api.End{{Pipe: 1}}
	k.S = []api.Alarm{{At: 500, Pid: 2}, {At: 500, Pid: 3}}
	k = asking(t, k, 2, api.SExit, 8)
	want := dies(t, k, 2, 8)
	want.P[1].C.Pc = 4
	want.Now++
	got := kern.Step(k)
	expect(t, "ends", got, want)
	if got.Pipes[0] != (api.Pipe{Data: "d", Readers: 4, Writers: 4}) || got.Pipes[1] != (api.Pipe{Readers: 5, Writers: 4}) || got.P[2].Parent != 1 || got.P[4].Parent != 1 || got.P[3].Parent != 3 {
		t.Error(got)
	}
}

// TestEndsOfOrphans: whose parent isn't there, or is dead, is taken out at once.
func TestEndsOfOrphans(t *testing.T) {
	for _, gone := range []bool{true, false} {
		k := family(0, 1, 7, 3)
		if !gone {
			k = family(0, 1, 2, 3)
			k = state(t, k, 2, api.PDead, api.Call{})
		}
		k = asking(t, k, 3, api.SExit, 8)
		want := dies(t, k, 3, 8)
		want.Now++
		got := kern.Step(k)
		expect(t, "orphan", got, want)
		if len(got.P) != 3 || got.P[2].Pid != 4 || got.P[2].Parent != 1 {
			t.Error(got.P)
		}
	}
}

// TestEndsOfItsOwnChild: in an odd table, where a process is its own parent, it is adopted before its parent is looked for.
func TestEndsOfItsOwnChild(t *testing.T) {
	got := kern.Step(asking(t, family(0, 2), 2, api.SExit, 8))
	if len(got.P) != 2 || got.P[1].State != api.PDead || got.P[1].Parent != 1 || got.P[1].Code != 8 {
		t.Error(got.P)
	}
}

// TestYield: P13.3, answered, and the next one has its turn.
func TestYield(t *testing.T) {
	k := asking(t, family(0, 1, 1), 1, api.SYield, 9, 9, 9)
	k.T.Left = 2
	want := called(t, k, 1, 0)
	want.T = api.Turn{L: []int{2, 3, 1}, Left: 5}
	expect(t, "yield", kern.Step(k), want)
}

// TestSpendsLast: a call takes the last cycle of a quantum as an instruction does.
func TestSpendsLast(t *testing.T) {
	for _, n := range []uint32{api.SPid, api.SRest, api.SFork, api.SSleep, 99} {
		k := asking(t, family(0, 1, 1), 1, n)
		k.T.Left = 1
		got := kern.Step(k)
		if got.T.L[0] != 2 || got.T.Left != 5 || len(got.Trace) != 1 {
			t.Error(n, got.T)
		}
	}
}

// TestSleep: P13.3, no cycle: answered at once; else till its time.
func TestSleep(t *testing.T) {
	plain(t, family(0, 1), 1, 0, api.SSleep, 0, 5, 6)
	for _, a := range []uint32{1, 3, most} {
		for _, now := range []uint64{0, 100, math.MaxUint64 - 2, math.MaxUint64} {
			k := asking(t, family(0, 1, 1), 2, api.SSleep, a, 5, 6)
			k.T.Left, k.Now = 2, now
			k.S = []api.Alarm{{At: math.MaxUint64, Pid: 3}}
			want := clone(k)
			p := &want.P[1]
			p.State, p.Want, p.C.Pc = api.PSleeps, api.Call{N: api.SSleep, A: a, B: 5, C: 6}, 4
			until := uint64(math.MaxUint64)
			if uint64(a) <= math.MaxUint64-now {
				until = now + uint64(a)
			}
			want.S = []api.Alarm{{At: until, Pid: 2}, {At: math.MaxUint64, Pid: 3}}
			want.T = api.Turn{L: []int{1, 3}, Left: 5}
			if now < math.MaxUint64 {
				want.Now++
				expect(t, "sleep", kern.Step(k), want)
			} else if got := kern.Step(k); !slices.Equal(got.S, []api.Alarm{{At: until, Pid: 2}}) { // the other one is due by then
				t.Error(got.S)
			}
		}
	}
}

// TestSleepTime: P13.2 and P13.3, who sleeps n cycles is answered n cycles later, and goes on in that cycle.
func TestSleepTime(t *testing.T) {
	for n := 1; n < 9; n++ {
		k := kern.Run(kern.Boot(64, []string{program([]int{api.SSleep, n}, []int{api.STime})}, nil, nil, 0), 30)
		want := []api.Event{{Pid: 1, N: api.SSleep, R: 0, At: uint64(2 + n)}, {Pid: 1, N: api.STime, R: uint32(3 + n), At: uint64(3 + n)}}
		if !slices.Equal(k.Trace[:2], want) {
			t.Error(n, k.Trace)
		}
	}
}

// TestWants: P13.3, what a guest wants of who looks after it.
func TestWants(t *testing.T) {
	for _, x := range []struct {
		n, a uint32
		want int
		e    api.Errno
	}{
		{api.SRest, 9, api.WRest, api.OK},
		{api.SHalt, 9, api.WHalt, api.OK},
		{api.SMode, 0, 3, api.OK},
		{api.SMode, 1, 4, api.OK},
		{api.SMode, 2, 5, api.OK},
		{api.SMode, 3, api.WNone, api.ErrArg},
		{api.SMode, most, api.WNone, api.ErrArg},
	} {
		k := asking(t, family(0, 1), 2, x.n, x.a)
		want := called(t, k, 2, value(x.e))
		want.Want = x.want
		got := kern.Step(k)
		expect(t, "wants", got, want)
		if got = kern.Step(got); got.Want != api.WNone {
			t.Error(x, got.Want)
		}
	}
}

// TestKill: P13.3, another one ends with 137, and the call is answered.
func TestKill(t *testing.T) {
	for _, pid := range []int{1, 2} {
		refused(t, family(0, 1, 1), pid, api.ErrPerm, api.SKill, 1)
		refused(t, family(0, 1, 1), pid, api.ErrNone, api.SKill, 0)
		refused(t, family(0, 1, 1), pid, api.ErrNone, api.SKill, 4)
		refused(t, family(0, 1, 1), pid, api.ErrNone, api.SKill, most)
		refused(t, state(t, family(0, 1, 1), 3, api.PDead, api.Call{}), pid, api.ErrNone, api.SKill, 3)
		for _, s := range []int{api.PReady, api.PWaits, api.PSleeps} {
			k := family(0, 1, 1)
			if s != api.PReady {
				k = state(t, k, 3, s, api.Call{N: api.SRead, A: 2, B: 8, C: 5})
			}
			if s == api.PSleeps {
				k.S = []api.Alarm{{At: 500, Pid: 3}}
			}
			k.Pipes = []api.Pipe{{Readers: 1, Writers: 1}}
			k.P[2].Fds[2] = api.End{Pipe: 1}
			k = asking(t, k, pid, api.SKill, 3)
			want := called(t, dies(t, k, 3, 137), pid, 0)
			expect(t, "kill", kern.Step(k), want)
		}
	}
}

// TestKillItself: P13.3, who ends itself isn't answered.
func TestKillItself(t *testing.T) {
	k := asking(t, family(0, 1, 2), 2, api.SKill, 2)
	k.T.Left = 3
	want := dies(t, k, 2, 137)
	want.P[1].C.Pc = 4
	want.Now++
	expect(t, "itself", kern.Step(k), want)
}

// TestKillParent: who ends its own parent is the first one's child, and is answered.
func TestKillParent(t *testing.T) {
	k := asking(t, family(0, 1, 2), 3, api.SKill, 2)
	want := called(t, dies(t, k, 2, 137), 3, 0)
	got := kern.Step(k)
	expect(t, "parent", got, want)
	if got.P[2].Parent != 1 || got.P[1].State != api.PDead {
		t.Error(got.P)
	}
}

// TestUnknown: P13.3, a call that there isn't.
func TestUnknown(t *testing.T) {
	for _, n := range []uint32{0, 21, 22, 255, 256 + api.SPid, 1<<16 + api.SPid, 1 << 31, most} {
		refused(t, family(0, 1), 1, api.ErrArg, n, 1, 2, 3)
	}
}

// TestFork: P13.4, the same registers but for 0, the same memory and ends.
func TestFork(t *testing.T) {
	k := family(0, 1)
	k.Pipes = []api.Pipe{{Readers: 1, Writers: 2}, {Readers: 7}}
	k.P[1].Fds = [api.MaxFds]api.End{{Pipe: 1, Writes: true}, {}, {Pipe: 1}, {Pipe: 2}}
	k.H.L[1].At = 200
	k = asking(t, k, 2, api.SFork, 11, 12, 13)
	want := called(t, k, 2, 3)
	child := want.P[1]
	child.Pid, child.Parent, child.C.R[0], child.State = 3, 2, 0, api.PReady
	want.P = append(want.P, child)
	want.T.L = append(want.T.L, 3)
	want.H.L = slices.Insert(want.H.L, 1, api.Span{At: 64, N: 64, Who: 3})
	want.Pipes = []api.Pipe{{Readers: 2, Writers: 3}, {Readers: 8}}
	got := kern.Step(k)
	expect(t, "fork", got, want)
	if got.P[2].C.Pc != 4 || got.P[2].C.R[7] != 777 {
		t.Error(got.P[2])
	}
}

// TestSpawn: P13.4, the memory of an image, registers of 0 and no ends.
func TestSpawn(t *testing.T) {
	k := family(0, 1)
	k.Pipes = []api.Pipe{{Readers: 1}}
	k.P[1].Fds[0] = api.End{Pipe: 1}
	for n := range uint32(2) {
		k := asking(t, k, 2, api.SSpawn, n, 12, 13)
		want := called(t, k, 2, 3)
		mem := make([]byte, 64)
		copy(mem, k.Images[n])
		want.P = append(want.P, api.Proc{Pid: 3, Parent: 2, State: api.PReady, Mem: string(mem)})
		want.T.L = append(want.T.L, 3)
		want.H.L = append(want.H.L, api.Span{At: 128, N: 64, Who: 3})
		expect(t, "spawn", kern.Step(k), want)
	}
	for _, n := range []uint32{3, 4, 1 << 31, most} {
		refused(t, k, 2, api.ErrNone, api.SSpawn, n)
		refused(t, k, 2, api.ErrNone, api.SExec, n)
	}
	refused(t, k, 2, api.ErrBig, api.SSpawn, 2)
	refused(t, k, 2, api.ErrBig, api.SExec, 2)
}

// TestNoRoom: a new process is refused, if there are six, dead ones too, or no room for its memory.
func TestNoRoom(t *testing.T) {
	for _, n := range []uint32{api.SFork, api.SSpawn} {
		six := family(0, 1, 1, 1, 1, 1)
		refused(t, six, 2, api.ErrFull, n, 0)
		refused(t, state(t, six, 6, api.PDead, api.Call{}), 2, api.ErrFull, n, 0)
		small := family(0, 1)
		small.H.Size = 191
		refused(t, small, 2, api.ErrFull, n, 0)
		small.H.L[1].At = 127
		refused(t, small, 2, api.ErrFull, n, 0)
		wrong := family(0, 1)
		wrong.H.L[0].N = 0
		refused(t, wrong, 2, api.ErrArg, n, 0)
		fits := asking(t, family(0, 1), 2, n, 0)
		fits.H.Size = 192
		if got := kern.Step(fits); len(got.P) != 3 || got.H.L[2] != (api.Span{At: 128, N: 64, Who: 3}) {
			t.Error(n, got)
		}
	}
	refused(t, family(0, 1, 1, 1, 1, 1), 2, api.ErrNone, api.SSpawn, 7)
	five := asking(t, family(0, 1, 1, 1, 1), 2, api.SFork)
	five.P[4].Pid = 40
	if got := kern.Step(five); len(got.P) != 6 || got.P[5].Pid != 41 || got.P[1].C.R[0] != 41 {
		t.Error(got.P)
	}
}

// TestExec: P13.4, another memory and registers of 0; the ends stay.
func TestExec(t *testing.T) {
	k := family(0, 1)
	k.Pipes = []api.Pipe{{Readers: 1}}
	k.P[1].Fds[0] = api.End{Pipe: 1}
	k = asking(t, k, 2, api.SExec, 1, 12, 13)
	want := called(t, k, 2, 0)
	mem := make([]byte, 64)
	copy(mem, k.Images[1])
	want.P[1].Mem, want.P[1].C = string(mem), api.Cpu{}
	expect(t, "exec", kern.Step(k), want)
}

// TestOwn: what is handed in stays as it was, whatever comes later.
func TestOwn(t *testing.T) {
	k := kern.Boot(1024, []string{program([]int{api.SPipe}, []int{api.SFork}, []int{api.SPut, 'p'}), asks}, []api.Chan{{Kind: api.CQueue, Size: 4, Depth: 2}}, []api.Chan{{Kind: api.CQueue, Size: 4, Depth: 3}}, 0)
	var all, kept []api.Kern
	for n := range 40 {
		all, kept = append(all, k), append(kept, clone(k))
		k = kern.Step(k)
		if n%10 == 5 {
			all, kept = append(all, k), append(kept, clone(k))
			k = kern.Arrive(k, 0, "m", uint64(n))
		}
	}
	for n := range all {
		expect(t, "kept", all[n], kept[n])
		wreck(kern.Step(all[n]))
		wreck(kern.Arrive(all[n], 0, "w", 1))
		wreck(kern.Arrive(all[n], 8, "w", 1))
		wreck(kern.Run(all[n], 0))
		wreck(kern.Run(all[n], 7))
		expect(t, "kept", all[n], kept[n])
	}
	images, outs, ins := []string{asks}, make([]api.Chan, 2), make([]api.Chan, 2)
	wreck(kern.Boot(64, images, outs, ins, 0))
	if images[0] != asks || outs[0].Size != 0 || ins[0].Size != 0 {
		t.Error(images, outs, ins)
	}
}

// wreck writes into all of a guest.
func wreck(k api.Kern) {
	for n := range k.P {
		k.P[n].Pid = 99
	}
	for n := range k.T.L {
		k.T.L[n] = 99
	}
	for n := range k.S {
		k.S[n].Pid = 99
	}
	for n := range k.Pipes {
		k.Pipes[n].Data = "wreck"
	}
	for n := range k.H.L {
		k.H.L[n].Who = 99
	}
	for n := range k.Images {
		k.Images[n] = "wreck"
	}
	for n := range k.Outs {
		k.Outs[n].Size = 99
	}
	for n := range k.Ins {
		k.Ins[n].Size = 99
	}
	for n := range k.In {
		for m := range k.In[n].L {
			k.In[n].L[m].Body = "wreck"
		}
		k.In[n].Lost = 99
	}
	for n := range k.Trace {
		k.Trace[n].Pid = 99
	}
	for n := range k.Sent {
		k.Sent[n].Port = 99
	}
}
