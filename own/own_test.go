package own_test

import (
	"slices"
	"testing"

	"transom/api"
	"transom/own"
)

// TestLists: the same elements, in other memory.
func TestLists(t *testing.T) {
	l := []int{1, 2, 3}
	c := own.List(l)
	if !slices.Equal(c, l) {
		t.Error(c)
	}
	c[0] = 9
	rows := [][]int{{1}, nil, {2, 3}}
	r := own.Rows(rows)
	if len(r) != 3 || len(r[1]) != 0 || !slices.Equal(r[2], rows[2]) {
		t.Error(r)
	}
	r[2][0], r[0] = 9, nil
	if l[0] != 1 || rows[2][0] != 2 || rows[0][0] != 1 {
		t.Error(l, rows)
	}
	if d := own.Each(l, func(n int) string { return string(rune('a' + n)) }); !slices.Equal(d, []string{"b", "c", "d"}) {
		t.Error(d)
	}
}

// TestSystem: nothing of a whole machine is shared.
func TestSystem(t *testing.T) {
	made := func() api.System {
		k := api.Kern{
			P: make([]api.Proc, 1), T: api.Turn{L: make([]int, 1)}, S: make([]api.Alarm, 1), Pipes: make([]api.Pipe, 1), H: api.Heap{L: make([]api.Span, 1)},
			Images: make([]string, 1), Outs: make([]api.Chan, 1), Ins: make([]api.Chan, 1), In: []api.Box{{L: make([]api.Msg, 1)}}, Trace: make([]api.Event, 1), Sent: make([]api.Out, 1),
		}
		p := api.Plan{Parts: make([]api.Part, 1), Wins: [][]api.Win{make([]api.Win, 1)}, Chans: make([]api.Chan, 1)}
		return api.System{P: p, Images: [][]string{make([]string, 1)}, Seats: []api.Seat{{K: k}}, Arrived: [][]api.Stamp{make([]api.Stamp, 1)}}
	}
	s := made()
	c := own.System(s)
	k := &c.Seats[0].K
	k.P[0].Pid, k.T.L[0], k.S[0].Pid, k.Pipes[0].Data, k.H.L[0].At = 1, 1, 1, "x", 1
	k.Images[0], k.Outs[0].Size, k.Ins[0].Size, k.In[0].L[0].Body, k.In[0].Lost = "x", 1, 1, "x", 1
	k.Trace[0].Pid, k.Sent[0].Port = 1, 1
	c.P.Parts[0].Mem, c.P.Wins[0][0].Len, c.P.Chans[0].Size = 1, 1, 1
	c.Images[0][0], c.Arrived[0][0].Body, c.Seats[0].Boots = "x", "x", 1
	k = &s.Seats[0].K
	switch {
	case k.P[0].Pid != 0 || k.T.L[0] != 0 || k.S[0].Pid != 0 || k.Pipes[0].Data != "" || k.H.L[0].At != 0:
		t.Error("processes", k)
	case k.Images[0] != "" || k.Outs[0].Size != 0 || k.Ins[0].Size != 0 || k.In[0].L[0].Body != "" || k.In[0].Lost != 0:
		t.Error("ports", k)
	case k.Trace[0].Pid != 0 || k.Sent[0].Port != 0 || s.Seats[0].Boots != 0:
		t.Error("what was told", k)
	case s.P.Parts[0].Mem != 0 || s.P.Wins[0][0].Len != 0 || s.P.Chans[0].Size != 0 || s.Images[0][0] != "" || s.Arrived[0][0].Body != "":
		t.Error("the plan", s)
	}
}
