package kern_test

import (
	"math"
	"slices"
	"strings"
	"testing"

	"transom/api"
	"transom/heap"
	"transom/kern"
	"transom/pipe"
	"transom/sleep"
	"transom/table"
)

// mustWait holds a call against a guest in which it must wait: no turn, no answer; in the next cycles neither.
func mustWait(t *testing.T, k api.Kern, pid int, call ...uint32) {
	t.Helper()
	k = asking(t, k, pid, call...)
	k.T.Left = 3
	want := clone(k)
	p := &want.P[place(t, k, pid)]
	p.State, p.C.Pc = api.PWaits, 4
	p.Want = api.Call{N: p.C.R[0], A: p.C.R[1], B: p.C.R[2], C: p.C.R[3]}
	want.T = api.Turn{L: want.T.L[1:], Left: 5}
	want.Now++
	got := kern.Step(k)
	expect(t, "must wait", got, want)
	want.T.L = nil
	got.T.L = nil
	want.Now += 2
	expect(t, "waits still", kern.Run(got, 2), want)
}

// TestWait: P13.5, the first dead child is taken out; none at all; it waits for one that lives.
func TestWait(t *testing.T) {
	k := family(0, 1, 1, 2, 1)
	refused(t, k, 4, api.ErrChild, api.SWait)
	refused(t, k, 3, api.ErrChild, api.SWait, 1, 2, 3)
	mustWait(t, k, 1, api.SWait, 7, 8, 9)
	mustWait(t, k, 2, api.SWait)
	k = state(t, k, 4, api.PDead, api.Call{})
	mustWait(t, k, 1, api.SWait)
	k = state(t, state(t, k, 3, api.PDead, api.Call{}), 5, api.PDead, api.Call{})
	k.P[2].Code, k.P[4].Code = 77, 255
	k = asking(t, k, 1, api.SWait)
	want := called(t, k, 1, 256*3+77)
	want.P = slices.Delete(want.P, 2, 3)
	got := kern.Step(k)
	expect(t, "the first one", got, want)
	k = asking(t, got, 1, api.SWait)
	want = called(t, k, 1, 256*5+255)
	want.P = want.P[:3]
	expect(t, "the second one", kern.Step(k), want)
}

// TestWaitWakes: who waits for a child is answered in the cycle behind its end, and has its turn behind those that are ready.
func TestWaitWakes(t *testing.T) {
	k := kern.Boot(256, []string{program([]int{api.SSpawn, 1}, []int{api.SWait}) + image(jmp(0)), program([]int{api.SExit, 300})}, nil, nil, 0)
	k = kern.Run(k, 5)
	if p := k.P[0]; p.State != api.PWaits || len(k.P) != 2 || k.P[1].State != api.PReady {
		t.Error(k)
	}
	k = kern.Run(k, 4)
	if !slices.Equal(k.Trace, []api.Event{{Pid: 1, N: api.SSpawn, R: 2, At: 2}, {Pid: 1, N: api.SWait, R: 2*256 + 44, At: 8}}) {
		t.Error(k.Trace)
	}
	dies := family(0, 1)
	dies = state(t, dies, 1, api.PWaits, api.Call{N: api.SWait})
	dies.P[0].Mem = image(li(5, 5))
	dies = asking(t, dies, 2, api.SExit, 9)
	one := kern.Step(dies)
	if one.P[0].State != api.PWaits || one.P[1].State != api.PDead || len(one.T.L) != 0 {
		t.Error(one)
	}
	two := kern.Step(one)
	if len(two.P) != 1 || two.P[0].C.R[0] != 521 || two.P[0].C.R[5] != 5 || two.T.Left != 4 || !slices.Equal(two.Trace, []api.Event{{Pid: 1, N: api.SWait, R: 521, At: 101}}) {
		t.Error(two)
	}
}

// TestWaitLast: who waits for children is refused, when the last one is gone without being dead.
func TestWaitLast(t *testing.T) {
	k := family(0, 1)
	k = state(t, k, 1, api.PWaits, api.Call{N: api.SWait})
	k.P = k.P[:1]
	k.T.L = nil
	k.P[0].Mem = image(jmp(0))
	k = kern.Step(k)
	if !slices.Equal(replies(k, 1), []uint32{value(api.ErrChild)}) || k.P[0].State != api.PReady {
		t.Error(k)
	}
}

// TestSmallOnes: P13.5, numbers, the time, the console.
func TestSmallOnes(t *testing.T) {
	for pid := 1; pid < 4; pid++ {
		plain(t, family(0, 1, 1), pid, uint32(pid), api.SPid, 9, 9, 9)
		plain(t, family(0, 1, 1), pid, 100, api.STime, 9, 9, 9)
	}
	late := family(0)
	late.Now = 5<<32 + 17
	plain(t, late, 1, 17, api.STime)
	k := family(0, 1)
	k.Cons = "ab"
	for _, x := range []struct {
		a uint32
		s string
	}{{'c', "c"}, {0, "\x00"}, {255, "\xff"}, {256 + 'd', "d"}, {most, "\xff"}} {
		k := asking(t, k, 2, api.SPut, x.a)
		want := called(t, k, 2, 0)
		want.Cons = "ab" + x.s
		expect(t, "put", kern.Step(k), want)
	}
}

// TestPipe: P13.5, a pipe with both of its ends; or an error, and nothing is changed.
func TestPipe(t *testing.T) {
	full, end := api.Pipe{Data: "u", Readers: 1}, api.End{Pipe: 9}
	for n, x := range []struct {
		pipes  []api.Pipe
		fds    [api.MaxFds]api.End
		pipe   int
		places [2]int
		e      api.Errno
	}{
		{nil, [api.MaxFds]api.End{}, 1, [2]int{0, 1}, api.OK},
		{[]api.Pipe{full}, [api.MaxFds]api.End{end, {}, end}, 2, [2]int{1, 3}, api.OK},
		{[]api.Pipe{full, {Data: "old"}}, [api.MaxFds]api.End{end, end}, 2, [2]int{2, 3}, api.OK},
		{[]api.Pipe{full, full, full, full}, [api.MaxFds]api.End{}, 0, [2]int{}, api.ErrFull},
		{[]api.Pipe{full}, [api.MaxFds]api.End{end, {}, end, end}, 0, [2]int{}, api.ErrFull},
		{nil, [api.MaxFds]api.End{end, end, end, end}, 0, [2]int{}, api.ErrFull},
	} {
		k := family(0, 1)
		k.Pipes, k.P[1].Fds = x.pipes, x.fds
		if x.e != api.OK {
			refused(t, k, 2, x.e, api.SPipe)
			continue
		}
		k = asking(t, k, 2, api.SPipe, 3, 3, 3)
		want := called(t, k, 2, uint32(x.places[0]+256*x.places[1]))
		if len(want.Pipes) < x.pipe {
			want.Pipes = append(want.Pipes, api.Pipe{})
		}
		want.Pipes[x.pipe-1] = api.Pipe{Readers: 1, Writers: 1}
		want.P[1].Fds[x.places[0]] = api.End{Pipe: x.pipe}
		want.P[1].Fds[x.places[1]] = api.End{Pipe: x.pipe, Writes: true}
		got := kern.Step(k)
		expect(t, "pipe", got, want)
		if got.P[1].C.R[0]&255 != uint32(x.places[0]) {
			t.Error(n, got.P[1])
		}
	}
}

// piped is a guest whose process 2 has an end that reads at 1 and one that writes at 2.
func piped(data string, readers, writers int) api.Kern {
	k := family(0, 1)
	k.Pipes = []api.Pipe{{Data: "other", Readers: 1, Writers: 1}, {Data: data, Readers: readers, Writers: writers}}
	k.P[1].Fds = [api.MaxFds]api.End{{}, {Pipe: 2}, {Pipe: 2, Writes: true}, {Pipe: 3, Writes: true}}
	return k
}

// TestWrite: P13.5, bytes of the memory into a pipe.
func TestWrite(t *testing.T) {
	for _, a := range []uint32{0, 1, 3, 4, 5, 1 << 31, most} {
		refused(t, piped("", 1, 1), 2, api.ErrArg, api.SWrite, a, 4, 1)
		refused(t, piped("", 1, 1), 2, api.ErrArg, api.SWrite, a, 99, 99)
	}
	for _, x := range [][2]uint32{{65, 0}, {64, 1}, {60, 5}, {0, 65}, {most, 1}, {1, most}, {most, most}} {
		refused(t, piped("", 0, 1), 2, api.ErrFault, api.SWrite, 2, x[0], x[1])
	}
	refused(t, piped("", 0, 1), 2, api.ErrEnd, api.SWrite, 2, 4, 1)
	refused(t, piped("12345678", 0, 1), 2, api.ErrEnd, api.SWrite, 2, 4, 1)
	plain(t, piped("", 0, 1), 2, 0, api.SWrite, 2, 4, 0)
	plain(t, piped("12345678", 1, 1), 2, 0, api.SWrite, 2, 64, 0)
	mustWait(t, piped("12345678", 1, 1), 2, api.SWrite, 2, 4, 1)
	for _, x := range []struct {
		data string
		b, c uint32
		want string
	}{{"", 4, 3, "abc"}, {"xy", 5, 3, "xybcd"}, {"", 4, 60, "abcdefgh"}, {"1234567", 60, 4, "12345674"}, {"", 0, 4, "\x00\x00\x00\x18"}} {
		k := asking(t, piped(x.data, 1, 1), 2, api.SWrite, 2, x.b, x.c)
		want := called(t, k, 2, uint32(len(x.want)-len(x.data)))
		want.Pipes[1].Data = x.want
		expect(t, "write", kern.Step(k), want)
	}
}

// TestRead: P13.5, bytes of a pipe into the memory.
func TestRead(t *testing.T) {
	for _, a := range []uint32{0, 2, 3, 4, 5, 1 << 31, most} {
		refused(t, piped("abc", 1, 1), 2, api.ErrArg, api.SRead, a, 4, 1)
		refused(t, piped("abc", 1, 1), 2, api.ErrArg, api.SRead, a, 99, 99)
	}
	for _, x := range [][2]uint32{{65, 0}, {64, 1}, {60, 5}, {0, 65}, {most, 1}, {1, most}, {most, most}} {
		refused(t, piped("abc", 1, 1), 2, api.ErrFault, api.SRead, 1, x[0], x[1])
		refused(t, piped("", 1, 0), 2, api.ErrFault, api.SRead, 1, x[0], x[1])
	}
	plain(t, piped("", 1, 0), 2, 0, api.SRead, 1, 4, 8)
	plain(t, piped("", 1, 1), 2, 0, api.SRead, 1, 4, 0)
	plain(t, piped("abc", 1, 1), 2, 0, api.SRead, 1, 64, 0)
	mustWait(t, piped("", 1, 1), 2, api.SRead, 1, 40, 5)
	for _, x := range []struct {
		data string
		b, c uint32
		s    string
	}{{"12345", 40, 3, "123"}, {"12345", 40, 5, "12345"}, {"12345", 40, 20, "12345"}, {"1", 63, 1, "1"}, {"12345", 59, 5, "12345"}} {
		k := asking(t, piped(x.data, 1, 0), 2, api.SRead, 1, x.b, x.c)
		want := called(t, k, 2, uint32(len(x.s)))
		want.Pipes[1].Data = x.data[len(x.s):]
		m := want.P[1].Mem
		want.P[1].Mem = m[:x.b] + x.s + m[int(x.b)+len(x.s):]
		expect(t, "read", kern.Step(k), want)
	}
}

// TestPipeWakes: who waits at a pipe is answered, when it can be: by bytes, by room, by the last end.
func TestPipeWakes(t *testing.T) {
	reads, writes := api.Call{N: api.SRead, A: 1, B: 40, C: 5}, api.Call{N: api.SWrite, A: 2, B: 4, C: 3}
	for n, x := range []struct {
		data             string
		readers, writers int
		want             api.Call
		r                uint32
	}{
		{"xy", 1, 1, reads, 2},
		{"", 1, 0, reads, 0},
		{"12345", 1, 1, writes, 3},
		{"1234567", 1, 1, writes, 1},
		{"12345678", 0, 1, writes, value(api.ErrEnd)},
	} {
		k := state(t, piped(x.data, x.readers, x.writers), 2, api.PWaits, x.want)
		k.P[0].Mem = image(jmp(0))
		k = kern.Step(k)
		if !slices.Equal(k.Trace, []api.Event{{Pid: 2, N: x.want.N, R: x.r, At: 100}}) || k.P[1].State != api.PReady || k.P[1].C.R[0] != x.r || k.P[1].Want != (api.Call{}) || !slices.Equal(k.T.L, []int{1, 2}) {
			t.Error(n, k)
		}
	}
}

// TestClose: P13.5, the end is counted, and its place is empty.
func TestClose(t *testing.T) {
	for _, a := range []uint32{0, 4, 5, 1 << 31, most} {
		refused(t, piped("", 1, 1), 2, api.ErrArg, api.SClose, a)
	}
	for a := uint32(1); a < 4; a++ {
		k := asking(t, piped("abc", 3, 3), 2, api.SClose, a)
		want := called(t, k, 2, 0)
		want.P[1].Fds[a] = api.End{}
		if a == 1 {
			want.Pipes[1].Readers = 2
		}
		if a == 2 {
			want.Pipes[1].Writers = 2
		}
		expect(t, "close", kern.Step(k), want)
	}
}

// TestSend: P13.5, bytes of the memory stand behind what this cycle sent.
func TestSend(t *testing.T) {
	k := family(0, 1)
	for _, a := range []uint32{2, 3, 1 << 31, most} {
		refused(t, k, 2, api.ErrNone, api.SSend, a, 99, 99)
	}
	for _, x := range [][2]uint32{{65, 0}, {64, 1}, {0, 65}, {most, 1}, {1, most}} {
		refused(t, k, 2, api.ErrFault, api.SSend, 0, x[0], x[1])
	}
	refused(t, k, 2, api.ErrBig, api.SSend, 0, 4, 5)
	refused(t, k, 2, api.ErrBig, api.SSend, 1, 4, 33)
	for _, x := range []struct {
		a, b, c uint32
		s       string
	}{{0, 4, 4, "abcd"}, {0, 4, 0, ""}, {0, 64, 0, ""}, {1, 4, 5, "abcde"}, {1, 32, 32, "CDEFGHIJKLMNOPQRSTUVWXYZ01234567"}} {
		k := asking(t, k, 2, api.SSend, x.a, x.b, x.c)
		k.Sent = []api.Out{{Port: 1, Body: "earlier"}}
		want := called(t, k, 2, 0)
		want.Sent = []api.Out{{Port: int(x.a), Body: x.s}}
		got := kern.Step(k)
		expect(t, "send", got, want)
		if got = kern.Step(got); len(got.Sent) != 0 {
			t.Error(got.Sent)
		}
	}
}

// TestRecv: P13.5, the first message into the memory; who receives never waits.
func TestRecv(t *testing.T) {
	k := family(0, 1)
	k.In[0] = api.Box{L: []api.Msg{{At: 5, Body: "one"}, {At: 6, Body: "two"}}, Lost: 3}
	for _, a := range []uint32{2, 3, 1 << 31, most} {
		refused(t, k, 2, api.ErrNone, api.SRecv, a, 99, 99)
	}
	refused(t, k, 2, api.ErrAgain, api.SRecv, 1, 99, 99)
	refused(t, k, 2, api.ErrBig, api.SRecv, 0, 99, 2)
	refused(t, k, 2, api.ErrBig, api.SRecv, 0, 99, 0)
	refused(t, k, 2, api.ErrFault, api.SRecv, 0, 62, 3)
	refused(t, k, 2, api.ErrFault, api.SRecv, 0, most, 99)
	for _, c := range []uint32{3, 4, most} {
		k := asking(t, k, 2, api.SRecv, 0, 61, c)
		want := called(t, k, 2, 3)
		want.In[0].L = want.In[0].L[1:]
		want.P[1].Mem = want.P[1].Mem[:61] + "one"
		expect(t, "a queue", kern.Step(k), want)
	}
	k.In[1].L = []api.Msg{{At: 7, Body: "sample"}}
	for range 2 {
		k = asking(t, k, 2, api.SRecv, 1, 30, 32)
		want := called(t, k, 2, 6)
		want.P[1].Mem = want.P[1].Mem[:30] + "sample" + want.P[1].Mem[36:]
		k = kern.Step(k)
		expect(t, "a sample", k, want)
	}
	k.In[0].L = []api.Msg{{At: 9}}
	k = asking(t, k, 2, api.SRecv, 0, 64, 0)
	want := called(t, k, 2, 0)
	want.In[0].L = nil
	expect(t, "an empty message", kern.Step(k), want)
}

// right tells what of a guest that began with Boot isn't as it should be.
func right(k api.Kern) string {
	ready := 0
	for _, p := range k.P {
		turns := 0
		for _, pid := range k.T.L {
			if pid == p.Pid {
				turns++
			}
		}
		spans := 0
		for _, s := range k.H.L {
			if s.Who == p.Pid && s.N == 64 {
				spans++
			}
		}
		alarms := 0
		for _, a := range k.S {
			if a.Pid == p.Pid {
				alarms++
			}
		}
		if lives := p.State != api.PDead; (spans == 1) != lives || len(p.Mem) != 64 {
			return "room"
		}
		if (turns == 1) != (p.State == api.PReady) || (alarms == 1) != (p.State == api.PSleeps) || turns+alarms > 1 {
			return "turns and alarms"
		}
		if p.Parent != 0 && table.Next(k.P) > 1 && !slices.ContainsFunc(k.P, func(x api.Proc) bool { return x.Pid == p.Parent && x.State != api.PDead }) {
			return "parents"
		}
		if p.State == api.PReady {
			ready++
		}
	}
	switch {
	case !table.Right(k.P) || len(k.P) > 6 || len(k.T.L) != ready:
		return "table"
	case !heap.Right(k.H) || !sleep.Right(k.S) || len(k.Pipes) > 4 || slices.ContainsFunc(k.Pipes, func(p api.Pipe) bool { return !pipe.Right(p) }):
		return "heap, alarms, pipes"
	case ready > 0 && (k.T.Left < 1 || k.T.Left > 5):
		return "quantum"
	}
	for n, p := range k.Pipes {
		readers, writers := 0, 0
		for _, x := range k.P {
			for _, e := range x.Fds {
				if e.Pipe == n+1 && e.Writes {
					writers++
				} else if e.Pipe == n+1 {
					readers++
				}
			}
		}
		if readers != p.Readers || writers != p.Writers {
			return "ends"
		}
	}
	return ""
}

// random tells numbers, by a rule.
func random(seed uint32) func(int) int {
	return func(n int) int {
		seed = seed*1664525 + 1013904223
		return int(seed>>8) % n
	}
}

// calling is an image of calls with numbers that are of use, and some that aren't.
func calling(next func(int) int) string {
	var l []api.Ins
	for len(l) < 13 {
		n := []int{api.SSpawn, api.SFork, api.SFork, api.SWait, api.SKill, api.SYield, api.SSleep, api.SPipe, api.SPipe, api.SWrite, api.SRead, api.SWrite, api.SRead, api.SClose, api.SSend, api.SRecv, api.SExec, next(22)}[next(18)]
		l = append(l, li(1, next(4)), li(3, next(4)), li(0, n), sys)
	}
	return image(append(l[:15], jmp(-15))...)
}

// TestLives: T4 and P13.6, guests of many calls stay as they should be, cycle by cycle; their clocks go on; what came to one hangs on nothing else.
func TestLives(t *testing.T) {
	lived, answered := 0, map[uint32]int{}
	for seed := range uint32(300) {
		next := random(seed)
		images := []string{calling(next), calling(next), calling(next), calling(next)}
		boot := func() api.Kern {
			chans := family(0)
			return kern.Boot(64*(1+next(8)), images, chans.Outs, chans.Ins, uint64(seed))
		}
		k := boot()
		for c := range 400 {
			if c%7 == 3 {
				k = kern.Arrive(k, next(3), strings.Repeat("m", next(6)), k.Now)
			}
			after := kern.Step(k)
			if fault := right(after); fault != "" {
				t.Fatalf("%d, %d: %s: %+v", seed, c, fault, after)
			}
			if after.Now != k.Now+1 || len(after.Trace) < len(k.Trace) {
				t.Fatal(seed, c)
			}
			others(t, k, after)
			k = after
			if k.Gone == api.KLives {
				lived++
			}
		}
		for _, e := range k.Trace {
			if e.R < 1<<31 {
				answered[e.N]++
			}
		}
	}
	for _, n := range []uint32{api.SSpawn, api.SFork, api.SWait, api.SKill, api.SYield, api.SSleep, api.SPipe, api.SWrite, api.SRead, api.SClose, api.SSend, api.SRecv, api.SExec} {
		if answered[n] == 0 {
			t.Error("never answered", n)
		}
	}
	if lived < 20000 {
		t.Error(lived)
	}
}

// others holds the memories of those against each other that neither had a turn nor waited.
func others(t *testing.T, k, after api.Kern) {
	for _, p := range k.P {
		if p.State == api.PWaits || slices.Contains(k.T.L[:min(1, len(k.T.L))], p.Pid) || len(k.T.L) == 0 {
			continue
		}
		for _, q := range after.P {
			if q.Pid == p.Pid && q.Mem != p.Mem && len(after.Trace) == len(k.Trace) {
				t.Fatal(p, q)
			}
		}
	}
}

// TestAnyGuest: R1, no guest, however odd, stops a cycle.
func TestAnyGuest(t *testing.T) {
	odd := []int{math.MinInt, -1, 0, 1, 2, 3, 4, 5, 7, 64, math.MaxInt}
	for seed := range uint32(3000) {
		next := random(seed)
		num := func() int { return odd[next(len(odd))] }
		var k api.Kern
		for range next(9) {
			p := api.Proc{Pid: num(), Parent: num(), State: next(6), Mem: asks[:next(65)], Code: num(), Want: api.Call{N: uint32(next(25)), A: uint32(num()), B: uint32(num()), C: uint32(num())}}
			p.C.R = [api.Regs]uint32{uint32(next(23)), uint32(num()), uint32(num()), uint32(num())}
			for n := range p.Fds {
				p.Fds[n] = api.End{Pipe: num(), Writes: next(2) == 0}
			}
			k.P = append(k.P, p)
			k.T.L = append(k.T.L, num())
			k.S = append(k.S, api.Alarm{At: uint64(num()), Pid: num()})
			k.Pipes = append(k.Pipes, api.Pipe{Data: asks[:next(12)], Readers: num(), Writers: num()})
			k.H.L = append(k.H.L, api.Span{At: num(), N: num(), Who: num()})
		}
		k.T.Left, k.H.Size, k.Now, k.Want = num(), num(), uint64(num()), num()
		k.Images = []string{asks, ""}[:next(3)]
		for range next(4) {
			c := api.Chan{Kind: next(4), From: num(), To: num(), Size: num(), Depth: num()}
			k.Outs = append(k.Outs, c)
			k.Ins = append(k.Ins, c)
			k.In = append(k.In, api.Box{L: make([]api.Msg, next(3))})
		}
		k.In = k.In[:next(len(k.In)+1)]
		before := clone(k)
		got := kern.Run(kern.Arrive(k, num(), "m", 1), 20)
		expect(t, "kept", k, before)
		if want := k.Now + 20; k.Now < math.MaxUint64-20 && got.Now != want {
			t.Fatal(got.Now, want)
		}
	}
}
