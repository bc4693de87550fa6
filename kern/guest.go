package kern

import (
	"math"
	"slices"

	"transom/api"
	"transom/call"
	"transom/cpu"
	"transom/heap"
	"transom/pipe"
	"transom/seg"
	"transom/sleep"
	"transom/table"
	"transom/turn"
)

// first is the process with which the guest is over.
const first = 1

// guest goes on in memory that is its own.
type guest struct{ api.Kern }

// put puts a process into the table.
func (g *guest) put(p api.Proc) { g.P = table.Put(g.P, p) }

// image is the memory of an image.
func (g *guest) image(n uint32) (string, api.Errno) {
	if uint64(n) >= uint64(len(g.Images)) {
		return "", api.ErrNone
	}
	return seg.Make(api.MemProc, g.Images[n])
}

// begin begins a new process with all that it has but its number and its state.
func (g *guest) begin(p api.Proc) (int, api.Errno) {
	if len(g.P) >= api.MaxProcs {
		return 0, api.ErrFull
	}
	p.Pid, p.State = table.Next(g.P), api.PReady
	h, _, e := heap.Take(g.H, api.MemProc, p.Pid)
	if e != api.OK {
		return 0, e
	}
	g.H = h
	g.put(p)
	g.T = turn.Add(g.T, p.Pid)
	g.count(p.Fds, 1)
	return p.Pid, api.OK
}

// count counts all of somebody's ends.
func (g *guest) count(fds [api.MaxFds]api.End, by int) {
	for _, e := range fds {
		g.Pipes = pipe.Count(g.Pipes, e, by)
	}
}

// end ends a process that is in the table.
func (g *guest) end(p api.Proc, code, why int) {
	if p.Pid == first {
		g.over(why)
		return
	}
	g.count(p.Fds, -1)
	p.Fds = [api.MaxFds]api.End{}
	g.put(p)
	g.H = heap.Drop(g.H, p.Pid)
	g.T = turn.Drop(g.T, p.Pid)
	g.S = sleep.Drop(g.S, p.Pid)
	g.P = table.Adopt(g.P, p.Pid, first)
	p, _ = table.Find(g.P, p.Pid) // anew: in an odd table it may be a child of its own
	parent, ok := table.Find(g.P, p.Parent)
	if !ok || parent.State == api.PDead {
		g.P = table.Remove(g.P, p.Pid)
		return
	}
	p.State, p.Code = api.PDead, code
	g.put(p)
}

// over ends the guest.
func (g *guest) over(why int) {
	g.P, g.S, g.Pipes, g.H.L = nil, nil, nil, nil
	g.T = api.Turn{}
	g.Gone = 1 + why
}

// result is what a call comes to: a value or an error, or that it must wait.
type result struct {
	v     uint32
	e     api.Errno
	waits bool
}

// answer answers a call of a process; nobody is answered who isn't there any more.
func (g *guest) answer(pid int, x api.Call, r result) {
	p, ok := table.Find(g.P, pid)
	if !ok {
		return
	}
	p.C = call.Back(p.C, r.e, r.v)
	p.State = api.PReady
	p.Want = api.Call{}
	g.put(p)
	g.Trace = append(g.Trace, api.Event{Pid: pid, N: x.N, R: call.Value(r.e, r.v), At: g.Now})
}

// step is one cycle.
func (g *guest) step() {
	g.Sent, g.Want = nil, api.WNone
	if g.Gone == api.KLives {
		g.wake()
		g.retry()
		g.turn()
	}
	if g.Now < math.MaxUint64 {
		g.Now++
	}
}

// wake answers those whose sleep is over.
func (g *guest) wake() {
	var pids []int
	pids, g.S = sleep.Due(g.S, g.Now)
	for _, pid := range pids {
		p, ok := table.Find(g.P, pid)
		if !ok || p.State != api.PSleeps {
			continue
		}
		g.answer(pid, p.Want, result{})
		g.T = turn.Add(g.T, pid)
	}
}

// waiting are the numbers of all that wait, rising.
func (g *guest) waiting() []int {
	var pids []int
	for _, p := range g.P {
		if p.State == api.PWaits {
			pids = append(pids, p.Pid)
		}
	}
	slices.Sort(pids)
	return pids
}

// retry tries the calls of those that waited when it began.
func (g *guest) retry() {
	for _, pid := range g.waiting() {
		p, ok := table.Find(g.P, pid)
		if ok && p.State == api.PWaits && g.attempt(p, g.trialOf(p.Want)) {
			g.T = turn.Add(g.T, pid)
		}
	}
}

// turn does an instruction of the process whose turn it is.
func (g *guest) turn() {
	pid, ok := turn.First(g.T)
	if !ok {
		return
	}
	p, ok := table.Find(g.P, pid)
	if !ok {
		return
	}
	c, m, told := cpu.Step(p.C, p.Mem)
	if told == api.TOp || told == api.TFault {
		g.end(p, failed+told, told)
		return
	}
	p.C, p.Mem = c, m
	g.put(p)
	if told == api.TSys {
		g.called(p)
		return
	}
	g.T = turn.Spend(g.T)
}
