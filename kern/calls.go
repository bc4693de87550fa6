package kern

import (
	"transom/api"
	"transom/call"
	"transom/sleep"
	"transom/table"
	"transom/turn"
)

// The codes of those that don't end by themselves.
const (
	failed = 128 // and what the step told
	killed = 137
)

// called does the call of the process whose turn it is.
func (g *guest) called(p api.Proc) {
	x := call.From(p.C)
	switch x.N {
	case api.SExit:
		g.end(p, int(x.A%256), 0)
	case api.SYield:
		g.answer(p.Pid, x, result{})
		g.T = turn.Yield(g.T)
	case api.SSleep:
		if x.A > 0 {
			g.sleep(p, x)
			return
		}
		fallthrough // who sleeps for no cycle is answered at once, and wants nothing
	case api.SRest, api.SHalt, api.SMode:
		want, e := wanted(x)
		g.Want = want
		g.reply(p, x, result{e: e})
	case api.SKill:
		e := g.kill(x.A)
		if e == api.OK && int(x.A) == p.Pid {
			return
		}
		g.reply(p, x, result{e: e})
	case api.SFork:
		g.reply(p, x, g.fork(p))
	case api.SSpawn:
		g.reply(p, x, g.spawn(p, x.A))
	case api.SExec:
		g.reply(p, x, g.exec(p, x.A))
	default:
		if !g.attempt(p, g.trialOf(x)) {
			g.wait(p, x)
			return
		}
		g.T = turn.Spend(g.T)
	}
}

// reply answers the process whose turn it is, which costs a cycle of it.
func (g *guest) reply(p api.Proc, x api.Call, r result) {
	g.answer(p.Pid, x, r)
	g.T = turn.Spend(g.T)
}

// wanted is what a call wants of who looks after the guest.
func wanted(x api.Call) (int, api.Errno) {
	switch {
	case x.N == api.SRest:
		return api.WRest, api.OK
	case x.N == api.SHalt:
		return api.WHalt, api.OK
	case x.N == api.SMode && x.A >= api.MaxScheds:
		return api.WNone, api.ErrArg
	case x.N == api.SMode:
		return api.WMode + int(x.A), api.OK
	}
	return api.WNone, api.OK
}

// wait lets a process wait till its call can be answered.
func (g *guest) wait(p api.Proc, x api.Call) {
	p.State, p.Want = api.PWaits, x
	g.put(p)
	g.T = turn.Drop(g.T, p.Pid)
}

// sleep lets a process wait for its time.
func (g *guest) sleep(p api.Proc, x api.Call) {
	p.State, p.Want = api.PSleeps, x
	g.put(p)
	g.T = turn.Drop(g.T, p.Pid)
	g.S = sleep.Add(g.S, api.Alarm{At: sleep.Until(g.Now, x.A), Pid: p.Pid})
}

// kill ends somebody.
func (g *guest) kill(whom uint32) api.Errno {
	if whom == first {
		return api.ErrPerm
	}
	p, ok := table.Find(g.P, int(whom))
	if !ok || p.State == api.PDead {
		return api.ErrNone
	}
	g.end(p, killed, 0)
	return api.OK
}

// fork begins a process that goes on as its parent does.
func (g *guest) fork(p api.Proc) result {
	c := p.C
	c.R[0] = 0
	pid, e := g.begin(api.Proc{Parent: p.Pid, C: c, Mem: p.Mem, Fds: p.Fds})
	return result{v: uint32(pid), e: e}
}

// spawn begins a process of an image.
func (g *guest) spawn(p api.Proc, n uint32) result {
	m, e := g.image(n)
	if e != api.OK {
		return result{e: e}
	}
	pid, e := g.begin(api.Proc{Parent: p.Pid, Mem: m})
	return result{v: uint32(pid), e: e}
}

// exec lets a process go on with an image.
func (g *guest) exec(p api.Proc, n uint32) result {
	m, e := g.image(n)
	if e == api.OK {
		p.Mem, p.C = m, api.Cpu{}
		g.put(p)
	}
	return result{e: e}
}
