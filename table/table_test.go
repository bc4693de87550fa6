package table_test

import (
	"math"
	"slices"
	"testing"

	"transom/api"
	"transom/table"
)

// proc is a process whose other fields tell of its number, too.
func proc(pid, parent, state int) api.Proc {
	return api.Proc{Pid: pid, Parent: parent, State: state, Mem: "m", Code: 100 + pid, Fds: [api.MaxFds]api.End{2: {Pipe: pid, Writes: true}}}
}

func row(pids ...int) []api.Proc {
	var l []api.Proc
	for _, pid := range pids {
		l = append(l, proc(pid, 1, api.PReady))
	}
	return l
}

// TestRight: P11.1, the Pids rise, none twice, each 1 or above.
func TestRight(t *testing.T) {
	for _, l := range [][]int{nil, {1}, {9}, {1, 2, 3}, {2, 7, math.MaxInt}} {
		if !table.Right(row(l...)) {
			t.Error(l)
		}
	}
	for _, l := range [][]int{{0}, {-1}, {0, 1}, {1, 1}, {2, 1}, {1, 3, 2}, {1, 2, 2}, {1, 0}, {math.MinInt}, {math.MaxInt, math.MinInt}, {-3, -2}} {
		if table.Right(row(l...)) {
			t.Error(l)
		}
	}
}

// TestFind: P11.1, the first process of a number.
func TestFind(t *testing.T) {
	l := row(4, 2, 7)
	twin := proc(2, 9, api.PDead)
	l = append(l, twin, proc(0, 0, 0))
	for n, pid := range []int{4, 2, 7} {
		if p, ok := table.Find(l, pid); p != l[n] || !ok {
			t.Errorf("%d: %v %v", pid, p, ok)
		}
	}
	if p, ok := table.Find(l, 0); p != l[4] || !ok {
		t.Error(p, ok)
	}
	for _, pid := range []int{1, 3, 8, -1, math.MinInt} {
		if p, ok := table.Find(l, pid); p != (api.Proc{}) || ok {
			t.Errorf("%d: %v %v", pid, p, ok)
		}
	}
	if p, ok := table.Find(nil, 0); p != (api.Proc{}) || ok {
		t.Error(p, ok)
	}
}

// TestPut: P11.1, in the place of the first one of its number, or by its number.
func TestPut(t *testing.T) {
	for _, x := range []struct {
		l     []int
		pid   int
		place int
		in    bool
	}{
		{nil, 5, 0, false},
		{[]int{2, 4, 6}, 1, 0, false},
		{[]int{2, 4, 6}, 2, 0, true},
		{[]int{2, 4, 6}, 3, 1, false},
		{[]int{2, 4, 6}, 4, 1, true},
		{[]int{2, 4, 6}, 6, 2, true},
		{[]int{2, 4, 6}, 7, 3, false},
		{[]int{6, 4, 2}, 3, 0, false},
		{[]int{6, 4, 2}, 4, 1, true},
		{[]int{1, 6, 2}, 3, 1, false},
		{[]int{2, 9, 2}, 2, 0, true},
		{[]int{9, 2, 2}, 2, 1, true},
		{[]int{9, 2}, -5, 0, false},
	} {
		l := row(x.l...)
		p := proc(x.pid, 77, api.PSleeps)
		want := slices.Clone(l)
		if x.in {
			want[x.place] = p
		} else {
			want = slices.Insert(want, x.place, p)
		}
		if got := table.Put(l, p); !slices.Equal(got, want) {
			t.Errorf("%v, %d: %v", x.l, x.pid, got)
		}
	}
}

// TestRemove: P11.1, all of a number.
func TestRemove(t *testing.T) {
	for _, x := range []struct {
		l    []int
		pid  int
		want []int
	}{
		{nil, 1, nil},
		{[]int{1}, 1, nil},
		{[]int{1, 2, 3}, 2, []int{1, 3}},
		{[]int{1, 2, 3}, 4, []int{1, 2, 3}},
		{[]int{2, 1, 2, 2, 3, 2}, 2, []int{1, 3}},
		{[]int{0, -1}, 0, []int{-1}},
	} {
		if got := table.Remove(row(x.l...), x.pid); !slices.Equal(got, row(x.want...)) {
			t.Errorf("%v, %d: %v", x.l, x.pid, got)
		}
	}
}

// TestNext: P11.2, one more than the greatest number.
func TestNext(t *testing.T) {
	for _, x := range []struct {
		l    []int
		next int
	}{
		{nil, 1}, {[]int{1}, 2}, {[]int{2, 4}, 5}, {[]int{4, 2}, 5}, {[]int{4, 9, 2}, 10}, {[]int{0}, 1}, {[]int{-1, -7}, 1}, {[]int{math.MinInt}, 1}, {[]int{math.MaxInt - 1}, math.MaxInt}, {[]int{3, math.MaxInt}, math.MinInt},
	} {
		if got := table.Next(row(x.l...)); got != x.next {
			t.Errorf("%v: %d", x.l, got)
		}
	}
}

// TestChildren: P11.2, in order; the first one that is dead.
func TestChildren(t *testing.T) {
	l := []api.Proc{proc(7, 1, api.PReady), proc(2, 3, api.PDead), proc(9, 1, api.PDead), proc(4, 1, api.PDead), proc(1, 0, api.PSleeps), proc(0, 5, api.PDead), proc(6, 1, api.PWaits)}
	for _, x := range []struct {
		pid      int
		children []int
		dead     int
		ok       bool
	}{
		{1, []int{7, 9, 4, 6}, 9, true},
		{3, []int{2}, 2, true},
		{0, []int{1}, 0, false},
		{5, []int{0}, 0, true},
		{7, nil, 0, false},
		{-1, nil, 0, false},
	} {
		if got := table.Children(l, x.pid); !slices.Equal(got, x.children) {
			t.Errorf("%d: %v", x.pid, got)
		}
		if pid, ok := table.Dead(l, x.pid); pid != x.dead || ok != x.ok {
			t.Errorf("%d: %d %v", x.pid, pid, ok)
		}
	}
}

// TestAdopt: P11.2, all of one's children are another one's.
func TestAdopt(t *testing.T) {
	l := []api.Proc{proc(1, 0, api.PReady), proc(2, 1, api.PDead), proc(3, 2, api.PReady), proc(4, 2, api.PDead), proc(5, 3, api.PReady)}
	want := slices.Clone(l)
	want[2].Parent, want[3].Parent = 1, 1
	if got := table.Adopt(l, 2, 1); !slices.Equal(got, want) {
		t.Error(got)
	}
	for _, x := range []struct{ from, to int }{{9, 1}, {2, 2}} {
		if got := table.Adopt(l, x.from, x.to); !slices.Equal(got, l) {
			t.Error(x, got)
		}
	}
	want = slices.Clone(l)
	want[0].Parent = -8
	if got := table.Adopt(l, 0, -8); !slices.Equal(got, want) {
		t.Error(got)
	}
}

// TestSame: P11.1, one by one, each field.
func TestSame(t *testing.T) {
	if !table.Same(row(1, 2), row(1, 2)) || !table.Same(nil, []api.Proc{}) {
		t.Error("the same")
	}
	for n, change := range []func(*api.Proc){
		func(p *api.Proc) { p.Pid++ },
		func(p *api.Proc) { p.Parent++ },
		func(p *api.Proc) { p.State++ },
		func(p *api.Proc) { p.C.R[7]++ },
		func(p *api.Proc) { p.C.Pc++ },
		func(p *api.Proc) { p.Mem = "n" },
		func(p *api.Proc) { p.Code++ },
		func(p *api.Proc) { p.Fds[3].Pipe++ },
		func(p *api.Proc) { p.Fds[2].Writes = false },
		func(p *api.Proc) { p.Want.N++ },
		func(p *api.Proc) { p.Want.C++ },
	} {
		for k := range 2 {
			l := row(1, 2)
			change(&l[k])
			if table.Same(l, row(1, 2)) || table.Same(row(1, 2), l) {
				t.Errorf("%d: %d", n, k)
			}
		}
	}
	for _, l := range [][]int{nil, {1}, {2, 1}, {1, 2, 3}} {
		if table.Same(row(l...), row(1, 2)) || table.Same(row(1, 2), row(l...)) {
			t.Error(l)
		}
	}
}

// TestOwn: what is handed in stays as it was, whatever is done with what came out.
func TestOwn(t *testing.T) {
	l := append(make([]api.Proc, 0, 9), row(1, 3)...)
	a, b := table.Put(l, proc(5, 1, 1)), table.Put(l, proc(6, 1, 1))
	if a[2].Pid != 5 || b[2].Pid != 6 {
		t.Error(a, b)
	}
	for _, x := range [][]api.Proc{a, b, table.Put(l, proc(2, 8, 8)), table.Put(l, proc(3, 8, 8)), table.Remove(l, 1), table.Remove(l, 9), table.Adopt(l, 1, 2), table.Adopt(l, 8, 2)} {
		for n := range x {
			x[n].Pid = 99
		}
	}
	if !slices.Equal(l, row(1, 3)) || l[:3][2] != (api.Proc{}) {
		t.Error(l[:3])
	}
}

// TestStaysRight: P11.3, a right table stays right; who was put is found; all others are as they were; Next is nobody's.
func TestStaysRight(t *testing.T) {
	var l []api.Proc
	model := map[int]api.Proc{}
	seed := uint32(5)
	for n := range 2000 {
		seed = seed*1664525 + 1013904223
		pid := int(seed>>20)%12 + 1
		p := proc(pid, n, api.PReady)
		switch {
		case seed>>28 < 5:
			l = table.Remove(l, pid)
			delete(model, pid)
		case seed>>28 < 7:
			p.Pid = table.Next(l)
			if _, ok := model[p.Pid]; ok {
				t.Fatal(p.Pid, l)
			}
			fallthrough
		default:
			l = table.Put(l, p)
			model[p.Pid] = p
		}
		if !table.Right(l) || len(l) != len(model) {
			t.Fatal(l, model)
		}
		for pid, p := range model {
			if got, ok := table.Find(l, pid); got != p || !ok {
				t.Fatal(pid, got, ok)
			}
		}
	}
}

// TestExample: the chapter's.
func TestExample(t *testing.T) {
	l := table.Put(table.Put(nil, proc(2, 0, 1)), proc(1, 0, 1))
	if len(l) != 2 || l[0].Pid != 1 || l[1].Pid != 2 || table.Next(l) != 3 {
		t.Error(l, table.Next(l))
	}
}
