package sleep_test

import (
	"math"
	"slices"
	"testing"

	"transom/api"
	"transom/sleep"
)

func at(t uint64, pid int) api.Alarm { return api.Alarm{At: t, Pid: pid} }

func row(l ...api.Alarm) []api.Alarm { return l }

// TestRight: P8.1, by At, then by Pid, none twice.
func TestRight(t *testing.T) {
	for n, l := range [][]api.Alarm{
		nil,
		{},
		row(at(0, 0)),
		row(at(5, 9), at(6, 1)),
		row(at(5, 1), at(5, 2), at(5, 9), at(6, -4)),
		row(at(5, -2), at(5, -1), at(math.MaxUint64, 1), at(math.MaxUint64, 2)),
		row(at(1, 3), at(2, 3)),
	} {
		if !sleep.Right(l) {
			t.Errorf("%d: %v", n, l)
		}
	}
	for n, l := range [][]api.Alarm{
		row(at(6, 1), at(5, 9)),
		row(at(5, 2), at(5, 1)),
		row(at(5, 2), at(5, 2)),
		row(at(1, 1), at(2, 2), at(2, 2)),
		row(at(1, 1), at(2, 2), at(1, 3)),
		row(at(0, 0), at(0, 0)),
		row(at(math.MaxUint64, 0), at(0, 1)),
	} {
		if sleep.Right(l) {
			t.Errorf("%d: %v", n, l)
		}
	}
}

// TestAdd: P8.1, ahead of the first one that is behind it.
func TestAdd(t *testing.T) {
	for n, x := range []struct {
		l     []api.Alarm
		a     api.Alarm
		place int
	}{
		{nil, at(5, 1), 0},
		{row(at(5, 1)), at(4, 9), 0},
		{row(at(5, 1)), at(6, 0), 1},
		{row(at(5, 1)), at(5, 0), 0},
		{row(at(5, 1)), at(5, 1), 1},
		{row(at(5, 1)), at(5, 2), 1},
		{row(at(5, 1), at(5, 3), at(9, 1)), at(5, 2), 1},
		{row(at(5, 1), at(5, 3), at(9, 1)), at(5, 4), 2},
		{row(at(5, 1), at(5, 3), at(9, 1)), at(8, 0), 2},
		{row(at(9, 1), at(3, 1), at(7, 1)), at(5, 5), 0},
		{row(at(3, 1), at(9, 1), at(3, 1), at(9, 9)), at(5, 5), 1},
		{row(at(3, 1), at(math.MaxUint64, 1)), at(math.MaxUint64, 2), 2},
	} {
		want := slices.Insert(slices.Clone(x.l), x.place, x.a)
		if got := sleep.Add(x.l, x.a); !slices.Equal(got, want) {
			t.Errorf("%d: %v", n, got)
		}
	}
}

// TestDrop: P8.1, all alarms of one.
func TestDrop(t *testing.T) {
	l := row(at(3, 1), at(3, 2), at(4, 1), at(1, 3), at(9, 1))
	for _, x := range []struct {
		pid  int
		want []api.Alarm
	}{
		{1, row(at(3, 2), at(1, 3))},
		{2, row(at(3, 1), at(4, 1), at(1, 3), at(9, 1))},
		{3, row(at(3, 1), at(3, 2), at(4, 1), at(9, 1))},
		{4, l},
	} {
		if got := sleep.Drop(l, x.pid); !slices.Equal(got, x.want) {
			t.Errorf("%d: %v", x.pid, got)
		}
	}
	if got := sleep.Drop(nil, 1); len(got) != 0 {
		t.Error(got)
	}
}

// TestDue: P8.2, those ahead of the first one that is later, and the others.
func TestDue(t *testing.T) {
	l := row(at(3, 7), at(3, 8), at(5, 1), at(4, 2), at(9, 3), at(1, 4))
	for _, x := range []struct {
		now uint64
		n   int
	}{{0, 0}, {2, 0}, {3, 2}, {4, 2}, {5, 4}, {8, 4}, {9, 6}, {math.MaxUint64, 6}} {
		want := []int{7, 8, 1, 2, 3, 4}[:x.n]
		if pids, rest := sleep.Due(l, x.now); !slices.Equal(pids, want) || !slices.Equal(rest, l[x.n:]) {
			t.Errorf("%d: %v %v", x.now, pids, rest)
		}
	}
	if pids, rest := sleep.Due(nil, 5); len(pids) != 0 || len(rest) != 0 {
		t.Error(pids, rest)
	}
	if pids, rest := sleep.Due(row(at(0, 1), at(math.MaxUint64, 2)), 0); !slices.Equal(pids, []int{1}) || len(rest) != 1 {
		t.Error(pids, rest)
	}
}

// TestUntil: P8.2, a sum that is not above the greatest number.
func TestUntil(t *testing.T) {
	for _, x := range []struct {
		now  uint64
		n    uint32
		want uint64
	}{
		{0, 0, 0}, {0, 3, 3}, {7, 0, 7}, {7, math.MaxUint32, 7 + math.MaxUint32},
		{math.MaxUint32, math.MaxUint32, 2 * math.MaxUint32},
		{math.MaxUint64, 0, math.MaxUint64}, {math.MaxUint64, 1, math.MaxUint64}, {math.MaxUint64, math.MaxUint32, math.MaxUint64},
		{math.MaxUint64 - 5, 4, math.MaxUint64 - 1}, {math.MaxUint64 - 5, 5, math.MaxUint64}, {math.MaxUint64 - 5, 6, math.MaxUint64},
		{math.MaxUint64 - math.MaxUint32, math.MaxUint32, math.MaxUint64},
	} {
		if got := sleep.Until(x.now, x.n); got != x.want {
			t.Errorf("%d and %d: %d", x.now, x.n, got)
		}
	}
}

// TestOwn: what is handed in stays as it was, whatever is done with what came out.
func TestOwn(t *testing.T) {
	l := append(make([]api.Alarm, 0, 9), at(1, 1), at(3, 3), at(5, 5))
	before := slices.Clone(l)
	a, b := sleep.Add(l, at(9, 9)), sleep.Add(l, at(8, 8))
	c, d := sleep.Add(l, at(2, 2)), sleep.Drop(l, 1)
	_, e := sleep.Due(l, 1)
	if a[3].Pid != 9 || b[3].Pid != 8 || c[1].Pid != 2 || len(d) != 2 || len(e) != 2 {
		t.Error(a, b, c, d, e)
	}
	for _, x := range [][]api.Alarm{a, b, c, d, e, sleep.Drop(l, 77)} {
		for n := range x {
			x[n].Pid = 99
		}
	}
	if !slices.Equal(l, before) || !slices.Equal(l[:4][3:], row(api.Alarm{})) {
		t.Error(l[:4])
	}
}

// TestStaysRight: P8.3, who is added is due at its time, once, not ahead of it, the earlier ones first.
func TestStaysRight(t *testing.T) {
	var l []api.Alarm
	times := map[int]uint64{}
	seed := uint32(3)
	for pid := range 200 {
		seed = seed*1664525 + 1013904223
		times[pid] = uint64(seed >> 26)
		l = sleep.Add(l, at(times[pid], pid))
		if !sleep.Right(l) {
			t.Fatal(l)
		}
	}
	for pid := 0; pid < 200; pid += 9 {
		l = sleep.Drop(l, pid)
		delete(times, pid)
		if !sleep.Right(l) {
			t.Fatal(l)
		}
	}
	for now := range uint64(70) {
		var pids []int
		pids, l = sleep.Due(l, now)
		if !slices.IsSorted(pids) {
			t.Error(now, pids)
		}
		for _, pid := range pids {
			if when, ok := times[pid]; !ok || when != now {
				t.Errorf("%d: %d at %d", pid, when, now)
			}
			delete(times, pid)
		}
	}
	if len(times) != 0 || len(l) != 0 {
		t.Error(times, l)
	}
}

// TestExample: the chapter's.
func TestExample(t *testing.T) {
	l := sleep.Add(sleep.Add(nil, at(5, 1)), at(3, 2))
	if pids, rest := sleep.Due(l, 3); !slices.Equal(pids, []int{2}) || !slices.Equal(rest, row(at(5, 1))) {
		t.Error(pids, rest)
	}
	if pids, _ := sleep.Due(l, 5); !slices.Equal(pids, []int{2, 1}) {
		t.Error(pids)
	}
}
