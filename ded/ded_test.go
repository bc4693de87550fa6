package ded_test

import (
	"math"
	"slices"
	"testing"

	"transom/api"
	"transom/ded"
	"transom/isa"
	"transom/seat"
)

func image(l ...api.Ins) string {
	s, e := isa.Bytes(l)
	if e != api.OK {
		panic(e)
	}
	return s
}

func li(a, imm int) api.Ins { return api.Ins{Op: api.OLi, A: a, Imm: imm} }

var sys = api.Ins{Op: api.OSys}

func jmp(imm int) api.Ins { return api.Ins{Op: api.OJmp, Imm: imm} }

func at(t uint64, port int, body string) api.Stamp {
	return api.Stamp{At: t, Port: port, Body: body}
}

var part = api.Part{Mem: 128, Act: [3]int{1, 1, 1}}

var ins = []api.Chan{{Kind: api.CQueue, From: 1, To: 0, Size: 4, Depth: 3}, {Kind: api.CSample, From: 1, To: 0, Size: 4, Depth: 1}}
var outs = []api.Chan{{Kind: api.CQueue, From: 0, To: 1, Size: 4, Depth: 3}}

// asker receives and rests, over and over.
var asker = image(li(2, 60), li(3, 4), li(0, api.SRecv), sys, li(0, api.SRest), sys, jmp(-4))

func expect(t *testing.T, name string, got, want api.Seat) {
	t.Helper()
	if !seat.Same(got, want) {
		t.Errorf("%s:\n got %+v\nwant %+v", name, got, want)
	}
}

// TestDue: P17.1, those ahead of the first one that is later, and the others.
func TestDue(t *testing.T) {
	l := []api.Stamp{at(3, 0, "a"), at(3, 1, "b"), at(5, 0, "c"), at(4, 0, "d"), at(9, 0, "e"), at(1, 0, "f")}
	for _, x := range []struct {
		now uint64
		n   int
	}{{0, 0}, {2, 0}, {3, 2}, {4, 2}, {5, 4}, {8, 4}, {9, 6}, {math.MaxUint64, 6}} {
		if due, rest := ded.Due(l, x.now); !slices.Equal(due, l[:x.n]) || !slices.Equal(rest, l[x.n:]) {
			t.Errorf("%d: %v %v", x.now, due, rest)
		}
	}
	if due, rest := ded.Due(nil, 5); len(due)+len(rest) != 0 {
		t.Error(due, rest)
	}
	before := slices.Clone(l)
	due, rest := ded.Due(l, 5)
	due = append(due, at(77, 7, "x"))
	due[0].Port, rest[0].Port = 9, 9
	if !slices.Equal(l, before) || rest[0].Body != "e" {
		t.Error(l, rest)
	}
}

// TestBegins: P17.1, whether one row is the beginning of another one.
func TestBegins(t *testing.T) {
	row := func(pids ...int) []api.Event {
		var l []api.Event
		for _, pid := range pids {
			l = append(l, api.Event{Pid: pid, N: 1, R: 2, At: 3})
		}
		return l
	}
	for _, x := range []struct {
		a, b []int
		want bool
	}{
		{nil, nil, true}, {nil, []int{1}, true}, {[]int{1}, nil, false}, {[]int{1}, []int{1}, true}, {[]int{1, 2}, []int{1, 2, 3}, true},
		{[]int{1, 2, 3}, []int{1, 2}, false}, {[]int{2}, []int{1, 2}, false}, {[]int{1, 3}, []int{1, 2, 3}, false}, {[]int{1, 2}, []int{2, 1}, false},
	} {
		if got := ded.Begins(row(x.a...), row(x.b...)); got != x.want {
			t.Errorf("%v %v: %v", x.a, x.b, got)
		}
	}
	for n, e := range []api.Event{{Pid: 2, N: 1, R: 2, At: 3}, {Pid: 1, N: 2, R: 2, At: 3}, {Pid: 1, N: 1, R: 3, At: 3}, {Pid: 1, N: 1, R: 2, At: 4}} {
		if ded.Begins([]api.Event{e}, row(1, 1)) {
			t.Error(n)
		}
	}
}

// slow is the chapter's sentence, cycle by cycle.
func slow(x api.Part, images []string, l []api.Stamp, n int) api.Seat {
	s := seat.Begin(x, images, outs, ins)
	for c := 0; ; c++ {
		for len(l) > 0 && l[0].At <= s.K.Now {
			s = seat.Arrive(s, l[0].Port, l[0].Body)
			l = l[1:]
		}
		if c >= n {
			return s
		}
		s = seat.Cycle(x, seat.Window(s))
	}
}

// TestRun: P17.2, with stamps, some early, some late, some to ports that there aren't.
func TestRun(t *testing.T) {
	l := []api.Stamp{at(0, 0, "m0"), at(0, 1, "s0"), at(5, 0, "m1"), at(5, 0, "m2"), at(4, 0, "m3"), at(9, 9, "no"), at(9, -1, "no"), at(9, 0, "great"), at(20, 1, "s1"), at(21, 0, "m4"), at(30, 0, "m5")}
	for _, act := range []int{1, 2, 3} {
		x := part
		x.Act = [3]int{act, act, act}
		for _, images := range [][]string{{asker}, {image(li(0, api.SHalt), sys)}, {image(li(1, 1), li(0, api.SExit), sys)}, {""}, nil} {
			for n := range 50 {
				expect(t, "run", ded.Run(x, images, outs, ins, l, n), slow(x, images, l, n))
			}
			for _, n := range []int{-1, math.MinInt} {
				expect(t, "no cycle", ded.Run(x, images, outs, ins, l, n), slow(x, images, l, 0))
			}
		}
	}
}

// TestArrives: P17.2, what is due arrives ahead of the cycle of its time, and at the end.
func TestArrives(t *testing.T) {
	recv := image(li(3, 4), li(2, 60), li(0, api.SRecv), sys, jmp(0))
	for when := range uint64(6) {
		s := ded.Run(part, []string{recv}, outs, ins, []api.Stamp{at(when, 0, "m")}, 4)
		want := uint32(1)
		if when > 3 {
			want = uint32(1<<32 - int(api.ErrAgain))
		}
		if len(s.K.Trace) != 1 || s.K.Trace[0].R != want || s.K.Trace[0].At != 3 {
			t.Error(when, s.K.Trace)
		}
		if waits := len(s.K.In[0].L) == 1; waits != (when == 4) {
			t.Error(when, s.K.In)
		}
	}
	s := ded.Run(part, []string{recv}, outs, ins, []api.Stamp{at(0, 1, "a"), at(1, 0, "b")}, 0)
	if len(s.K.In[1].L) != 1 || len(s.K.In[0].L) != 0 || s.K.In[1].L[0].At != 0 {
		t.Error(s.K.In)
	}
}

// TestRests: P17.2, each cycle begins as a window does: who rests goes on.
func TestRests(t *testing.T) {
	s := ded.Run(part, []string{image(li(0, api.SRest), sys, jmp(-2))}, nil, nil, nil, 302)
	if s.K.Now != 302 || len(s.K.Trace) != 101 || s.State != api.XRests {
		t.Error(s.K.Now, len(s.K.Trace), s.State)
	}
}

// TestLonger: P17.3, what was answered is the beginning of what is answered in a longer run; a run hangs on the stamps up to its end alone.
func TestLonger(t *testing.T) {
	l := []api.Stamp{at(3, 0, "m"), at(8, 0, "n"), at(19, 1, "o"), at(33, 0, "p")}
	var ahead []api.Event
	for n := range 60 {
		s := ded.Run(part, []string{asker}, outs, ins, l, n)
		if !ded.Begins(ahead, s.K.Trace) {
			t.Error(n, ahead, s.K.Trace)
		}
		ahead = s.K.Trace
		due, _ := ded.Due(l, uint64(n))
		expect(t, "stamps up to the end", ded.Run(part, []string{asker}, outs, ins, due, n), s)
		other := append(slices.Clone(due), at(uint64(n)+1, 0, "z"))
		expect(t, "stamps behind the end", ded.Run(part, []string{asker}, outs, ins, other, n), s)
	}
	if len(ahead) < 15 {
		t.Error(ahead)
	}
}

// TestOwn: what is handed in stays as it was.
func TestOwn(t *testing.T) {
	images, o, i := []string{asker}, slices.Clone(outs), slices.Clone(ins)
	l := []api.Stamp{at(0, 0, "m"), at(3, 0, "n")}
	s := ded.Run(part, images, o, i, l, 9)
	s.K.Images[0], s.K.Outs[0].Size, s.K.Ins[0].Size = "x", 99, 99
	if images[0] != asker || !slices.Equal(o, outs) || !slices.Equal(i, ins) || l[0] != at(0, 0, "m") || l[1] != at(3, 0, "n") {
		t.Error(images, o, i, l)
	}
}

// TestExample: the chapter's.
func TestExample(t *testing.T) {
	images := []string{image(li(0, api.SPid), sys, jmp(-2))}
	s := seat.Begin(part, images, outs, ins)
	for n := range 40 {
		expect(t, "cycles", ded.Run(part, images, outs, ins, nil, n), s)
		s = seat.Cycle(part, s)
	}
}
