package window_test

import (
	"math"
	"testing"

	"transom/api"
	"transom/window"
)

func parts(n int) []api.Part {
	l := make([]api.Part, n)
	for k := range l {
		l[k] = api.Part{Mem: 64, Act: [3]int{1, 1, 1}}
	}
	return l
}

// two is a plan of two schedules with gaps, ahead of windows, between them and behind them.
func two() api.Plan {
	return api.Plan{
		Parts: parts(3),
		Frame: 30,
		Wins: [][]api.Win{
			{{Part: 1, From: 1, Len: 5}, {Part: 0, From: 6, Len: 3}, {Part: 1, From: 12, Len: 8}, {Part: 2, From: 25, Len: 4}},
			{{Part: 0, From: 0, Len: 30}},
			{},
		},
	}
}

// find is the chapter's sentences: whose a cycle is, how, and whether a window begins.
func find(p api.Plan, sched int, t uint64) (int, int, bool) {
	c := int(t % uint64(p.Frame))
	for _, w := range p.Wins[sched] {
		for n := range w.Len {
			if w.From+n != c {
				continue
			}
			if n < 2 {
				return w.Part, api.GSwitch, n == 0
			}
			return w.Part, api.GOwn, false
		}
	}
	return -1, api.GGap, false
}

// TestAt: P6.1, all cycles of some frames, and late ones.
func TestAt(t *testing.T) {
	p := two()
	for sched := range 3 {
		for c := range uint64(200) {
			for _, at := range []uint64{c, math.MaxUint64 - c, 1<<63 + c} {
				who, how, starts := find(p, sched, at)
				if a, b := window.At(p, sched, at); a != who || b != how {
					t.Errorf("%d at %d: %d %d, not %d %d", sched, at, a, b, who, how)
				}
				if s := window.Starts(p, sched, at); s != starts {
					t.Errorf("%d at %d: %v", sched, at, s)
				}
			}
		}
	}
}

// TestAtLine: P6.1, a schedule cycle by cycle, in figures: a gap as ., the beginning of a window as -.
func TestAtLine(t *testing.T) {
	const line = ".--111--0...--111111.....--22."
	const starts = ".s....s.....s............s...."
	for c := range uint64(60) {
		who, how := window.At(two(), 0, c)
		var want, got byte = line[c%30], '.'
		if how == api.GSwitch {
			got = '-'
		} else if how == api.GOwn {
			got = byte('0' + who)
		}
		if got != want || (how == api.GGap) != (who == -1) {
			t.Errorf("%d: %d %d", c, who, how)
		}
		if window.Starts(two(), 0, c) != (starts[c%30] == 's') {
			t.Errorf("%d: starts", c)
		}
	}
}

// TestFrame: P6.2 and P6.3, how many of the first cycles, for all counts.
func TestFrame(t *testing.T) {
	p := two()
	for sched := range 3 {
		for part := -1; part < 4; part++ {
			want := 0
			for n := range 40 {
				if got := window.Frame(p, sched, part, n); got != want {
					t.Errorf("%d of %d, %d: %d, not %d", sched, part, n, got, want)
				}
				if who, how, _ := find(p, sched, uint64(n)); n < 30 && how == api.GOwn && who == part {
					want++
				}
			}
			for _, n := range []int{-1, -30, math.MinInt, math.MinInt + 1} {
				if got := window.Frame(p, sched, part, n); got != 0 {
					t.Errorf("%d of %d, %d: %d", sched, part, n, got)
				}
			}
			for _, n := range []int{31, math.MaxInt} {
				if got := window.Frame(p, sched, part, n); got != want {
					t.Errorf("%d of %d, %d: %d", sched, part, n, got)
				}
			}
		}
	}
}

// TestGrants: P6.3, each window grants its length less two.
func TestGrants(t *testing.T) {
	p := two()
	for sched, l := range p.Wins {
		want := make([]int, 3)
		for _, w := range l {
			want[w.Part] += w.Len - 2
		}
		for part, n := range want {
			if got := window.Frame(p, sched, part, 30); got != n {
				t.Errorf("%d of %d: %d", sched, part, got)
			}
		}
	}
}

// TestGranted: P6.2 and P6.3, it goes up by one with each cycle that is granted, and by nothing else.
func TestGranted(t *testing.T) {
	p := two()
	for sched := range 3 {
		for part := -1; part < 4; part++ {
			want := uint64(0)
			for c := range uint64(200) {
				if got := window.Granted(p, sched, part, c); got != want {
					t.Errorf("%d of %d, %d: %d, not %d", sched, part, c, got, want)
				}
				if who, how, _ := find(p, sched, c); how == api.GOwn && who == part {
					want++
				}
			}
			whole := uint64(window.Frame(p, sched, part, 30))
			for _, c := range []uint64{1 << 32, 1 << 63, math.MaxUint64} {
				want := c/30*whole + uint64(window.Frame(p, sched, part, int(c%30)))
				if got := window.Granted(p, sched, part, c); got != want {
					t.Errorf("%d of %d, %d: %d, not %d", sched, part, c, got, want)
				}
			}
		}
	}
	all := api.Plan{Parts: parts(1), Frame: 3, Wins: [][]api.Win{{{Part: 0, From: 0, Len: 3}}}}
	if n := window.Granted(all, 0, 0, math.MaxUint64); n != math.MaxUint64/3 {
		t.Error(n)
	}
}

// TestNone: a plan that may not be, and a schedule that there isn't, have no windows.
func TestNone(t *testing.T) {
	wrong := two()
	wrong.Parts[2].Mem = 1
	over := two()
	over.Wins[0][1].From = 5
	short := two()
	short.Wins[0][1].Len = 2
	still := two()
	still.Frame = 0
	back := two()
	back.Frame = -30
	for n, x := range []struct {
		p     api.Plan
		sched int
	}{
		{two(), -1}, {two(), 3}, {two(), math.MinInt}, {two(), math.MaxInt},
		{wrong, 0}, {over, 0}, {over, 1}, {short, 0}, {still, 0}, {back, 0}, {api.Plan{}, 0},
	} {
		for c := range uint64(31) {
			if who, how := window.At(x.p, x.sched, c); who != -1 || how != api.GGap {
				t.Errorf("%d at %d: %d %d", n, c, who, how)
			}
			if window.Starts(x.p, x.sched, c) {
				t.Errorf("%d at %d: starts", n, c)
			}
			for part := -1; part < 4; part++ {
				if k := window.Frame(x.p, x.sched, part, int(c)); k != 0 {
					t.Errorf("%d of %d at %d: %d", n, part, c, k)
				}
				if k := window.Granted(x.p, x.sched, part, c*100); k != 0 {
					t.Errorf("%d of %d at %d: %d", n, part, c, k)
				}
			}
		}
	}
}

// TestExample: the chapter's.
func TestExample(t *testing.T) {
	p := api.Plan{Parts: parts(1), Frame: 10, Wins: [][]api.Win{{{Part: 0, From: 0, Len: 10}}}}
	if who, how := window.At(p, 0, 1); who != 0 || how != api.GSwitch {
		t.Error(who, how)
	}
	if who, how := window.At(p, 0, 2); who != 0 || how != api.GOwn {
		t.Error(who, how)
	}
	if n := window.Frame(p, 0, 0, 10); n != 8 {
		t.Error(n)
	}
}
