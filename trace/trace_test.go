package trace_test

import (
	"math"
	"slices"
	"testing"

	"transom/api"
	"transom/trace"
)

func event(pid int, n, r uint32, at uint64) api.Event {
	return api.Event{Pid: pid, N: n, R: r, At: at}
}

var some = []api.Event{event(1, 6, 1, 3), event(2, 6, 2, 3), event(1, 9, math.MaxUint32, 8), event(3, 4, math.MaxUint32-14, 9), event(1, 6, math.MaxUint32-13, 7), event(-1, 0, 0, 20), event(2, 30, 1<<31, 9)}

// at are events of one at some times.
func at(times ...uint64) []api.Event {
	var l []api.Event
	for _, t := range times {
		l = append(l, event(1, 6, 1, t))
	}
	return l
}

// TestOf: P18.1, one's events, in order.
func TestOf(t *testing.T) {
	for _, x := range []struct {
		pid    int
		places []int
	}{{1, []int{0, 2, 4}}, {2, []int{1, 6}}, {3, []int{3}}, {-1, []int{5}}, {0, nil}, {4, nil}} {
		var want []api.Event
		for _, n := range x.places {
			want = append(want, some[n])
		}
		if got := trace.Of(some, x.pid); !slices.Equal(got, want) {
			t.Errorf("%d: %v", x.pid, got)
		}
	}
	if got := trace.Of(nil, 0); len(got) != 0 {
		t.Error(got)
	}
}

// TestUntil: P18.1, those ahead of the first one that is at a time, or later.
func TestUntil(t *testing.T) {
	for _, x := range []struct {
		t uint64
		n int
	}{{0, 0}, {3, 0}, {4, 2}, {8, 2}, {9, 3}, {10, 5}, {20, 5}, {21, 7}, {math.MaxUint64, 7}} {
		if got := trace.Until(some, x.t); !slices.Equal(got, some[:x.n]) {
			t.Errorf("%d: %v", x.t, got)
		}
	}
	last := at(math.MaxUint64)
	if got := trace.Until(last, math.MaxUint64); len(got) != 0 {
		t.Error(got)
	}
	if got := trace.Until(nil, 9); len(got) != 0 {
		t.Error(got)
	}
}

// TestRises: P18.1, no time is below the one ahead of it.
func TestRises(t *testing.T) {
	for _, l := range [][]uint64{nil, {0}, {9}, {3, 3}, {3, 4, 4, 9}, {0, math.MaxUint64, math.MaxUint64}} {
		if !trace.Rises(at(l...)) {
			t.Error(l)
		}
	}
	for _, l := range [][]uint64{{1, 0}, {3, 4, 3}, {3, 2, 9}, {math.MaxUint64, 0}, {5, 6, 7, 6, 8}} {
		if trace.Rises(at(l...)) {
			t.Error(l)
		}
	}
}

// TestErrors: P18.1, results that are told as errors.
func TestErrors(t *testing.T) {
	if got := trace.Errors(some); got != 2 {
		t.Error(got)
	}
	for _, x := range []struct {
		r    uint32
		want int
	}{{0, 0}, {1, 0}, {14, 0}, {1 << 31, 0}, {math.MaxUint32 - 14, 0}, {math.MaxUint32 - 13, 1}, {math.MaxUint32 - 6, 1}, {math.MaxUint32, 1}} {
		if got := trace.Errors([]api.Event{event(1, 1, x.r, 1)}); got != x.want {
			t.Errorf("%d: %d", x.r, got)
		}
	}
	if got := trace.Errors(nil); got != 0 {
		t.Error(got)
	}
}

// TestCount: P18.1, events of a call.
func TestCount(t *testing.T) {
	for n, want := range map[uint32]int{6: 3, 9: 1, 4: 1, 0: 1, 30: 1, 1: 0, math.MaxUint32: 0} {
		if got := trace.Count(some, n); got != want {
			t.Errorf("%d: %d", n, got)
		}
	}
	if got := trace.Count(nil, 0); got != 0 {
		t.Error(got)
	}
}

// TestGap: P18.2, the greatest difference of two that stand together in Of.
func TestGap(t *testing.T) {
	for n, x := range []struct {
		l    []api.Event
		want uint64
	}{
		{nil, 0},
		{at(9), 0},
		{at(9, 9), 0},
		{at(3, 8), 5},
		{at(3, 8, 9), 5},
		{at(3, 4, 9), 5},
		{at(0, math.MaxUint64), math.MaxUint64},
		{at(8, 3), math.MaxUint64 - 4},
		{at(0, 7, 6, 90), math.MaxUint64},
		{[]api.Event{event(1, 6, 1, 3), event(2, 6, 1, 50), event(1, 6, 1, 10), event(2, 6, 1, 90), event(2, 6, 1, 91)}, 7},
	} {
		if got := trace.Gap(x.l, 1); got != x.want {
			t.Errorf("%d: %d", n, got)
		}
		if got := trace.Gap(x.l, 7); got != 0 {
			t.Errorf("%d: %d", n, got)
		}
	}
	if got := trace.Gap(some, 2); got != 6 {
		t.Error(got)
	}
}

// TestBoth: P18.3, where a row rises, Until is all that is earlier; of rows, one behind the other, all is that of both.
func TestBoth(t *testing.T) {
	rises := at(1, 3, 3, 5, 9, 9)
	for c := range uint64(12) {
		var want []api.Event
		for _, e := range rises {
			if e.At < c {
				want = append(want, e)
			}
		}
		if got := trace.Until(rises, c); !slices.Equal(got, want) {
			t.Errorf("%d: %v", c, got)
		}
	}
	for n := range some {
		a, b := some[:n], some[n:]
		for v := -1; v < 10; v++ {
			if got := append(trace.Of(a, v), trace.Of(b, v)...); !slices.Equal(got, trace.Of(some, v)) {
				t.Error(n, v, got)
			}
			if got := trace.Count(a, uint32(v)) + trace.Count(b, uint32(v)); got != trace.Count(some, uint32(v)) {
				t.Error(n, v, got)
			}
		}
		if got := trace.Errors(a) + trace.Errors(b); got != trace.Errors(some) {
			t.Error(n, got)
		}
	}
}

// TestOwn: what is handed in stays as it was.
func TestOwn(t *testing.T) {
	l := slices.Clone(some)
	for _, x := range [][]api.Event{trace.Of(l, 1), trace.Until(l, 9)} {
		for n := range x {
			x[n].Pid = 99
		}
	}
	if !slices.Equal(l, some) {
		t.Error(l)
	}
}

// TestExample: the chapter's.
func TestExample(t *testing.T) {
	if got := trace.Gap(at(3, 8), 1); got != 5 {
		t.Error(got)
	}
}
