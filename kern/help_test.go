package kern_test

import (
	"slices"
	"strings"
	"testing"

	"transom/api"
	"transom/isa"
	"transom/kern"
)

const most = 1<<32 - 1

// value is an error as a register tells it.
func value(e api.Errno) uint32 { return -uint32(e) }

// image is a program.
func image(l ...api.Ins) string {
	s, e := isa.Bytes(l)
	if e != api.OK {
		panic(e)
	}
	return s
}

func li(a, imm int) api.Ins { return api.Ins{Op: api.OLi, A: a, Imm: imm} }

func jmp(imm int) api.Ins { return api.Ins{Op: api.OJmp, Imm: imm} }

var sys = api.Ins{Op: api.OSys}

// program is calls, one behind the other, each with the numbers for the registers from 0 on.
func program(calls ...[]int) string {
	var l []api.Ins
	for _, c := range calls {
		for n := len(c) - 1; n >= 0; n-- {
			l = append(l, li(n, c[n]))
		}
		l = append(l, sys)
	}
	return image(l...)
}

// asks is an image that begins with a call; behind it stand bytes to be told apart.
var asks = image(sys) + "abcdefghijklmnopqrstuvwxyzABCDEFGHIJKLMNOPQRSTUVWXYZ01234567"

// clone is a guest that shares nothing that a test changes.
func clone(k api.Kern) api.Kern {
	k.P = slices.Clone(k.P)
	k.T.L = slices.Clone(k.T.L)
	k.S = slices.Clone(k.S)
	k.Pipes = slices.Clone(k.Pipes)
	k.H.L = slices.Clone(k.H.L)
	k.Images = slices.Clone(k.Images)
	k.Outs = slices.Clone(k.Outs)
	k.Ins = slices.Clone(k.Ins)
	k.In = slices.Clone(k.In)
	for n := range k.In {
		k.In[n].L = slices.Clone(k.In[n].L)
	}
	k.Trace = slices.Clone(k.Trace)
	k.Sent = slices.Clone(k.Sent)
	return k
}

// place is where a process stands in the table.
func place(t *testing.T, k api.Kern, pid int) int {
	t.Helper()
	n := slices.IndexFunc(k.P, func(p api.Proc) bool { return p.Pid == pid })
	if n < 0 {
		t.Fatalf("no process %d", pid)
	}
	return n
}

func proc(t *testing.T, k api.Kern, pid int) api.Proc {
	t.Helper()
	return k.P[place(t, k, pid)]
}

// asking is a guest in which a process is about to call; all others that are ready stand behind it.
func asking(t *testing.T, k api.Kern, pid int, call ...uint32) api.Kern {
	t.Helper()
	k = clone(k)
	p := &k.P[place(t, k, pid)]
	p.C = api.Cpu{}
	copy(p.C.R[:], call)
	p.C.R[7] = 777
	p.Mem = asks
	k.T.L = append([]int{pid}, slices.DeleteFunc(k.T.L, func(n int) bool { return n == pid })...)
	k.T.Left = 5
	return k
}

// called is that guest behind its cycle, if the call has no effect but its answer.
func called(t *testing.T, k api.Kern, pid int, v uint32) api.Kern {
	t.Helper()
	k = clone(k)
	p := &k.P[place(t, k, pid)]
	n := p.C.R[0]
	p.C.R[0], p.C.Pc = v, 4
	k.Trace = append(k.Trace, api.Event{Pid: pid, N: n, R: v, At: k.Now})
	k.T.Left = 4
	k.Now++
	k.Sent, k.Want = nil, api.WNone
	return k
}

// expect holds two guests against each other, and tells what is not the same.
func expect(t *testing.T, name string, got, want api.Kern) {
	t.Helper()
	if kern.Same(got, want) && same(got, want) {
		return
	}
	t.Errorf("%s:\n got %+v\nwant %+v", name, got, want)
}

// same is as Same, told anew.
func same(a, b api.Kern) bool {
	return slices.Equal(a.P, b.P) && slices.Equal(a.T.L, b.T.L) && a.T.Left == b.T.Left && slices.Equal(a.S, b.S) && slices.Equal(a.Pipes, b.Pipes) &&
		a.H.Size == b.H.Size && slices.Equal(a.H.L, b.H.L) && a.Now == b.Now && slices.Equal(a.Images, b.Images) && slices.Equal(a.Outs, b.Outs) && slices.Equal(a.Ins, b.Ins) &&
		slices.EqualFunc(a.In, b.In, func(x, y api.Box) bool { return x.Lost == y.Lost && slices.Equal(x.L, y.L) }) &&
		a.Cons == b.Cons && slices.Equal(a.Trace, b.Trace) && slices.Equal(a.Sent, b.Sent) && a.Want == b.Want && a.Gone == b.Gone
}

// family is a guest of some processes, each with a parent, all ready, at the time 100; the ports are two that send and two that receive.
func family(parents ...int) api.Kern {
	outs := []api.Chan{{Kind: api.CQueue, From: 0, To: 1, Size: 4, Depth: 2}, {Kind: api.CSample, From: 0, To: 1, Size: 32, Depth: 1}}
	ins := []api.Chan{{Kind: api.CQueue, From: 1, To: 0, Size: 4, Depth: 2}, {Kind: api.CSample, From: 1, To: 0, Size: 32, Depth: 1}}
	k := kern.Boot(1024, []string{asks, program([]int{api.SExit, 3}), strings.Repeat("z", 65)}, outs, ins, 100)
	for n, parent := range parents[1:] {
		pid := n + 2
		k.P = append(k.P, api.Proc{Pid: pid, Parent: parent, State: api.PReady, Mem: asks})
		k.T.L = append(k.T.L, pid)
		k.H.L = append(k.H.L, api.Span{At: 64 * (n + 1), N: 64, Who: pid})
	}
	return k
}

// state puts a process into a state, out of the row of turns.
func state(t *testing.T, k api.Kern, pid, s int, want api.Call) api.Kern {
	t.Helper()
	k = clone(k)
	p := &k.P[place(t, k, pid)]
	p.State, p.Want = s, want
	k.T.L = slices.DeleteFunc(k.T.L, func(n int) bool { return n == pid })
	return k
}

// events are what a guest has answered to one.
func events(k api.Kern, pid int) []api.Event {
	return slices.DeleteFunc(slices.Clone(k.Trace), func(e api.Event) bool { return e.Pid != pid })
}

// replies are the answers to one's calls.
func replies(k api.Kern, pid int) []uint32 {
	var l []uint32
	for _, e := range events(k, pid) {
		l = append(l, e.R)
	}
	return l
}
