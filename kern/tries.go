package kern

import (
	"transom/api"
	"transom/pipe"
	"transom/port"
	"transom/seg"
	"transom/table"
)

// trial is a call, and how it is tried: now, and again in later cycles, as long as it must wait.
type trial struct {
	x  api.Call
	do func(p api.Proc, x api.Call) result
}

// attempt tries a call of a process, and answers it, unless it must wait.
func (g *guest) attempt(p api.Proc, t trial) bool {
	r := t.do(p, t.x)
	if r.waits {
		return false
	}
	g.answer(p.Pid, t.x, r)
	return true
}

// trialOf is how a call is tried; one that isn't tried is one that there isn't.
func (g *guest) trialOf(x api.Call) trial {
	t := trial{x: x}
	switch x.N {
	case api.SWait:
		t.do = g.tryWait
	case api.SPid:
		t.do = func(p api.Proc, _ api.Call) result { return result{v: uint32(p.Pid)} }
	case api.STime:
		t.do = func(api.Proc, api.Call) result { return result{v: uint32(g.Now)} }
	case api.SPut:
		t.do = g.tryPut
	case api.SPipe:
		t.do = g.tryPipe
	case api.SWrite:
		t.do = g.tryWrite
	case api.SRead:
		t.do = g.tryRead
	case api.SClose:
		t.do = g.tryClose
	case api.SSend:
		t.do = g.trySend
	case api.SRecv:
		t.do = g.tryRecv
	default:
		t.do = func(api.Proc, api.Call) result { return result{e: api.ErrArg} }
	}
	return t
}

// tryWait takes out a child that is dead.
func (g *guest) tryWait(p api.Proc, _ api.Call) result {
	pid, ok := table.Dead(g.P, p.Pid)
	if ok {
		child, _ := table.Find(g.P, pid)
		g.P = table.Remove(g.P, pid)
		return result{v: uint32(256*pid + child.Code)}
	}
	if len(table.Children(g.P, p.Pid)) == 0 {
		return result{e: api.ErrChild}
	}
	return result{waits: true}
}

// tryPut writes a byte on the console.
func (g *guest) tryPut(_ api.Proc, x api.Call) result {
	g.Cons += string([]byte{byte(x.A)})
	return result{}
}

// tryPipe makes a pipe, and gives both of its ends a place; or does nothing at all.
func (g *guest) tryPipe(p api.Proc, _ api.Call) result {
	l, n, e := pipe.Make(g.Pipes)
	if e != api.OK {
		return result{e: e}
	}
	fds, reads, e := pipe.Set(p.Fds, api.End{Pipe: n})
	if e != api.OK {
		return result{e: e}
	}
	fds, writes, e := pipe.Set(fds, api.End{Pipe: n, Writes: true})
	if e != api.OK {
		return result{e: e}
	}
	p.Fds = fds
	g.Pipes = l
	g.put(p)
	return result{v: uint32(reads + 256*writes)}
}

// pipeOf is where the pipe of an end at a place of somebody's stands, if the end is one of the kind that is asked for.
func (g *guest) pipeOf(p api.Proc, place uint32, writes bool) (int, bool) {
	if place >= api.MaxFds {
		return 0, false
	}
	e := p.Fds[place]
	if e.Writes != writes || e.Pipe < 1 || e.Pipe > len(g.Pipes) {
		return 0, false
	}
	return e.Pipe - 1, true
}

// tryWrite writes bytes of the memory into a pipe.
func (g *guest) tryWrite(p api.Proc, x api.Call) result {
	to, ok := g.pipeOf(p, x.A, true)
	if !ok {
		return result{e: api.ErrArg}
	}
	s, e := seg.Out(p.Mem, x.B, x.C)
	if e != api.OK {
		return result{e: e}
	}
	after, n, e := pipe.Write(g.Pipes[to], s)
	g.Pipes[to] = after
	return result{v: uint32(n), e: e, waits: e == api.ErrAgain}
}

// tryRead reads bytes of a pipe into the memory.
func (g *guest) tryRead(p api.Proc, x api.Call) result {
	from, ok := g.pipeOf(p, x.A, false)
	if !ok {
		return result{e: api.ErrArg}
	}
	if _, e := seg.Out(p.Mem, x.B, x.C); e != api.OK {
		return result{e: e}
	}
	after, s, e := pipe.Read(g.Pipes[from], int(x.C))
	if e != api.OK {
		return result{e: e, waits: e == api.ErrAgain}
	}
	p.Mem, e = seg.In(p.Mem, x.B, s)
	if e != api.OK {
		return result{e: e}
	}
	g.Pipes[from] = after
	g.put(p)
	return result{v: uint32(len(s))}
}

// tryClose empties the place of an end.
func (g *guest) tryClose(p api.Proc, x api.Call) result {
	if x.A >= api.MaxFds || p.Fds[x.A].Pipe == 0 {
		return result{e: api.ErrArg}
	}
	g.Pipes = pipe.Count(g.Pipes, p.Fds[x.A], -1)
	p.Fds[x.A] = api.End{}
	g.put(p)
	return result{}
}

// trySend sends bytes of the memory.
func (g *guest) trySend(p api.Proc, x api.Call) result {
	if uint64(x.A) >= uint64(len(g.Outs)) {
		return result{e: api.ErrNone}
	}
	s, e := seg.Out(p.Mem, x.B, x.C)
	if e != api.OK {
		return result{e: e}
	}
	if len(s) > g.Outs[x.A].Size {
		return result{e: api.ErrBig}
	}
	g.Sent = append(g.Sent, api.Out{Port: int(x.A), Body: s})
	return result{}
}

// tryRecv takes a message into the memory; it waits for none.
func (g *guest) tryRecv(p api.Proc, x api.Call) result {
	if uint64(x.A) >= uint64(min(len(g.Ins), len(g.In))) {
		return result{e: api.ErrNone}
	}
	c, b := g.Ins[x.A], g.In[x.A]
	m, ok := port.Peek(c, b)
	if !ok {
		return result{e: api.ErrAgain}
	}
	if uint64(len(m.Body)) > uint64(x.C) {
		return result{e: api.ErrBig}
	}
	mem, e := seg.In(p.Mem, x.B, m.Body)
	if e != api.OK {
		return result{e: e}
	}
	p.Mem = mem
	g.In[x.A], _, _ = port.Take(c, b)
	g.put(p)
	return result{v: uint32(len(m.Body))}
}
