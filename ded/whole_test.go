package ded_test

import (
	"slices"
	"testing"

	"transom/api"
	"transom/ded"
	"transom/hyper"
	"transom/kern"
	"transom/plan"
	"transom/route"
	"transom/seat"
	"transom/window"
)

// random tells numbers, by a rule.
func random(seed uint32) func(int) int {
	return func(n int) int {
		seed = seed*1664525 + 1013904223
		return int(seed>>8) % n
	}
}

// calling is an image of calls with numbers that are of use, and some that aren't.
func calling(next func(int) int) string {
	kinds := []int{api.SSend, api.SSend, api.SSend, api.SRecv, api.SRecv, api.SRest, api.SMode, api.SFork, api.SSleep, api.SYield, api.SPipe, api.SWait, api.SPut, api.STime, next(23)}
	l := []api.Ins{li(2, 56)}
	for len(l) < 12 {
		l = append(l, li(1, next(3)), li(3, next(5)), li(0, kinds[next(len(kinds))]), sys)
	}
	if next(4) > 0 {
		l = append(l, jmp(-len(l)))
	}
	return image(l...)
}

// machine is a plan of up to four partitions with all that may be in it, and images for them.
func machine(next func(int) int) (api.Plan, [][]string) {
	p := api.Plan{Frame: 40 + next(40)}
	var images [][]string
	for range 2 + next(3) {
		p.Parts = append(p.Parts, api.Part{Mem: 64 * (1 + next(6)), Act: [3]int{1 + next(3), 1 + next(3), 1 + next(3)}})
		images = append(images, []string{calling(next), calling(next)})
	}
	for range 1 + next(3) {
		var l []api.Win
		for at := next(4); len(l) < api.MaxWins; {
			w := api.Win{Part: next(len(p.Parts)), From: at, Len: 3 + next(12)}
			if w.From+w.Len > p.Frame {
				break
			}
			l = append(l, w)
			at = w.From + w.Len + next(3)
		}
		p.Wins = append(p.Wins, l)
	}
	for range next(api.MaxChans + 1) {
		from := next(len(p.Parts))
		c := api.Chan{Kind: api.CQueue, From: from, To: (from + 1 + next(len(p.Parts)-1)) % len(p.Parts), Size: 1 + next(6), Depth: 1 + next(3)}
		if next(2) == 0 {
			c.Kind, c.Depth = api.CSample, 1
		}
		p.Chans = append(p.Chans, c)
	}
	return p, images
}

func begin(t *testing.T, p api.Plan, images [][]string) api.System {
	t.Helper()
	s, e := hyper.Begin(p, images)
	if e != api.OK {
		t.Fatal(p, e)
	}
	return s
}

// TestAsIfAlone: T1, each guest is just as it would be on a machine of its own.
func TestAsIfAlone(t *testing.T) {
	arrived, modes, boots, got := 0, 0, 0, 0
	for seed := range uint32(300) {
		p, images := machine(random(seed))
		s := begin(t, p, images)
		for _, n := range []int{0, 1, 17, 100, 300, 400} {
			s = hyper.Run(s, n)
			for part, x := range s.Seats {
				alone := ded.Run(p.Parts[part], images[part], route.Outs(p, part), route.Ins(p, part), s.Arrived[part], int(x.K.Now))
				// What the last cycle sent and wanted is there till the next one in both.
				if !kern.Same(alone.K, x.K) || alone.Boots != x.Boots {
					t.Fatalf("%d, %d:\n got %+v\nwant %+v", seed, part, x, alone)
				}
				if (alone.State == api.XHalts) != (x.State == api.XHalts) {
					t.Fatal(seed, part, alone.State, x.State)
				}
			}
		}
		if s.Sched > 0 {
			modes++
		}
		for part, x := range s.Seats {
			arrived += len(s.Arrived[part])
			boots += x.Boots - 1
			for _, e := range x.K.Trace {
				if e.N == api.SRecv && e.R < 100 {
					got++
				}
			}
		}
	}
	if arrived < 1000 || modes < 10 || boots < 100 || got < 50 {
		t.Error(arrived, modes, boots, got)
	}
}

// TestApart: T2, what a partition comes to hangs on the images of those whose messages may come to it, of the partition 0, and of whom a way leads from to that.
func TestApart(t *testing.T) {
	told := 0
	for seed := range uint32(400) {
		next := random(seed)
		p, images := machine(next)
		other := slices.Clone(images)
		other[next(len(other))] = []string{calling(next)}
		a, b := hyper.Run(begin(t, p, images), 500), hyper.Run(begin(t, p, other), 500)
		for part := range p.Parts {
			if !route.Alike(p, images, other, part) || !route.Alike(p, images, other, 0) {
				continue
			}
			told++
			if !seat.Same(a.Seats[part], b.Seats[part]) {
				t.Fatal(seed, part)
			}
		}
	}
	if told < 100 {
		t.Error(told)
	}
}

// TestTime: T3, whose a cycle is hangs on the plan, the schedule and the cycle of the frame alone; schedules change at the end of a frame alone; no clock is above what is granted.
func TestTime(t *testing.T) {
	for seed := range uint32(60) {
		p, images := machine(random(seed))
		s := begin(t, p, images)
		granted := make([]uint64, len(p.Parts))
		for c := range uint64(300) {
			who, how := window.At(p, s.Sched, c%uint64(p.Frame))
			after := hyper.Step(s)
			if owns := how == api.GOwn; owns && after.Owner != who || !owns && after.Owner != -1 {
				t.Fatal(seed, c, after.Owner)
			}
			if how == api.GOwn {
				granted[who]++
			}
			if after.Sched != s.Sched && after.Now%uint64(p.Frame) != 0 {
				t.Fatal(seed, c)
			}
			for part, x := range after.Seats {
				if x.K.Now > granted[part] || x.K.Now != s.Seats[part].K.Now && (how != api.GOwn || who != part) {
					t.Fatal(seed, c, part)
				}
			}
			s = after
		}
		if !plan.Same(s.P, p) {
			t.Fatal(seed)
		}
	}
}
