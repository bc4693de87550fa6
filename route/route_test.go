package route_test

import (
	"math"
	"slices"
	"testing"

	"transom/api"
	"transom/route"
)

// joins is a plan of partitions and of channels, each from one to another; the channel's Size tells its place.
func joins(parts int, ends ...[2]int) api.Plan {
	p := api.Plan{Parts: make([]api.Part, parts)}
	for n, e := range ends {
		p.Chans = append(p.Chans, api.Chan{Kind: api.CQueue, From: e[0], To: e[1], Size: n + 1, Depth: 2})
	}
	return p
}

// places are those of channels in the plan.
func places(l []api.Chan) []int {
	var n []int
	for _, c := range l {
		n = append(n, c.Size-1)
	}
	return n
}

var some = joins(4, [2]int{0, 1}, [2]int{1, 2}, [2]int{0, 2}, [2]int{3, 2}, [2]int{0, 1}, [2]int{2, 0})

// TestPorts: P15.1, one's channels, in the plan's order.
func TestPorts(t *testing.T) {
	for _, x := range []struct {
		part      int
		outs, ins []int
	}{
		{0, []int{0, 2, 4}, []int{5}},
		{1, []int{1}, []int{0, 4}},
		{2, []int{5}, []int{1, 2, 3}},
		{3, []int{3}, nil},
		{4, nil, nil},
		{-1, nil, nil},
		{math.MinInt, nil, nil},
	} {
		outs, ins := route.Outs(some, x.part), route.Ins(some, x.part)
		if !slices.Equal(places(outs), x.outs) || !slices.Equal(places(ins), x.ins) {
			t.Errorf("%d: %v %v", x.part, outs, ins)
		}
		for _, c := range append(outs, ins...) {
			if c != some.Chans[c.Size-1] {
				t.Errorf("%d: %v", x.part, c)
			}
		}
	}
	if len(route.Outs(api.Plan{}, 0)) != 0 || len(route.Ins(api.Plan{}, 0)) != 0 {
		t.Error("an empty plan")
	}
	odd := joins(1, [2]int{-5, 9}, [2]int{9, 9})
	if !slices.Equal(places(route.Outs(odd, -5)), []int{0}) || !slices.Equal(places(route.Ins(odd, 9)), []int{0, 1}) || !slices.Equal(places(route.Outs(odd, 9)), []int{1}) {
		t.Error("channels of partitions that there aren't")
	}
}

// TestTo: P15.1, where a port leads.
func TestTo(t *testing.T) {
	for _, x := range []struct {
		part, port int
		want       api.Route
		ok         bool
	}{
		{0, 0, api.Route{Part: 1, Port: 0}, true},
		{0, 1, api.Route{Part: 2, Port: 1}, true},
		{0, 2, api.Route{Part: 1, Port: 1}, true},
		{1, 0, api.Route{Part: 2, Port: 0}, true},
		{2, 0, api.Route{Part: 0, Port: 0}, true},
		{3, 0, api.Route{Part: 2, Port: 2}, true},
		{0, 3, api.Route{}, false},
		{0, -1, api.Route{}, false},
		{0, math.MaxInt, api.Route{}, false},
		{1, 1, api.Route{}, false},
		{4, 0, api.Route{}, false},
		{-1, 0, api.Route{}, false},
	} {
		if r, ok := route.To(some, x.part, x.port); r != x.want || ok != x.ok {
			t.Errorf("%d, %d: %v %v", x.part, x.port, r, ok)
		}
	}
	if r, ok := route.To(joins(1, [2]int{0, 0}, [2]int{0, 0}), 0, 1); r != (api.Route{Part: 0, Port: 1}) || !ok {
		t.Error(r, ok)
	}
}

// TestJoins: P15.3, each channel joins one port that sends and one that receives; no two the same ones.
func TestJoins(t *testing.T) {
	seen := map[api.Route]int{}
	for part := range 4 {
		for port, c := range route.Outs(some, part) {
			r, ok := route.To(some, part, port)
			ins := route.Ins(some, r.Part)
			if !ok || r.Port >= len(ins) || ins[r.Port] != c {
				t.Errorf("%d, %d: %v %v", part, port, r, ok)
			}
			seen[r]++
		}
	}
	if len(seen) != len(some.Chans) {
		t.Error(seen)
	}
}

// TestReach: P15.2, all from which a way leads, rising, each once.
func TestReach(t *testing.T) {
	line := joins(4, [2]int{3, 2}, [2]int{2, 1}, [2]int{1, 0})
	round := joins(4, [2]int{0, 1}, [2]int{1, 2}, [2]int{2, 0}, [2]int{0, 1})
	odd := joins(3, [2]int{0, 7}, [2]int{7, 1}, [2]int{-1, 2}, [2]int{2, -1}, [2]int{1, 1}, [2]int{3, 0})
	for n, x := range []struct {
		p    api.Plan
		part int
		want []int
	}{
		{some, 0, []int{0, 1, 2, 3}},
		{some, 1, []int{0, 1, 2, 3}},
		{some, 2, []int{0, 1, 2, 3}},
		{some, 3, []int{3}},
		{some, 4, nil},
		{some, -1, nil},
		{some, math.MinInt, nil},
		{line, 0, []int{0, 1, 2, 3}},
		{line, 1, []int{1, 2, 3}},
		{line, 2, []int{2, 3}},
		{line, 3, []int{3}},
		{round, 0, []int{0, 1, 2}},
		{round, 1, []int{0, 1, 2}},
		{round, 3, []int{3}},
		{odd, 0, []int{0}},
		{odd, 1, []int{1}},
		{odd, 2, []int{2}},
		{odd, 3, nil},
		{odd, 7, nil},
		{api.Plan{}, 0, nil},
		{joins(2), 1, []int{1}},
	} {
		if got := route.Reach(x.p, x.part); !slices.Equal(got, x.want) {
			t.Errorf("%d: %v", n, got)
		}
	}
}

// TestReachFar: P15.2 and P15.3, a long way, and who reaches one that reaches another one reaches that.
func TestReachFar(t *testing.T) {
	var ends [][2]int
	for n := range 2000 {
		ends = append(ends, [2]int{n + 1, n})
	}
	if got := route.Reach(joins(2001, ends...), 0); len(got) != 2001 || !slices.IsSorted(got) {
		t.Error(len(got))
	}
	seed := uint32(1)
	for range 300 {
		ends = nil
		for range 7 {
			seed = seed*1664525 + 1013904223
			ends = append(ends, [2]int{int(seed>>8) % 5, int(seed>>20) % 5})
		}
		p := joins(5, ends...)
		for a := range 5 {
			reach := route.Reach(p, a)
			for _, e := range ends {
				if slices.Contains(reach, e[1]) && !slices.Contains(reach, e[0]) {
					t.Fatal(ends, a, reach)
				}
			}
			for _, b := range reach {
				for _, c := range route.Reach(p, b) {
					if !slices.Contains(reach, c) {
						t.Fatal(ends, a, b, c)
					}
				}
			}
		}
	}
}

// TestAlike: P15.2, of the partition 0 and of all that reach one the same images.
func TestAlike(t *testing.T) {
	p := joins(4, [2]int{1, 2}, [2]int{3, 1})
	base := [][]string{{"a"}, {"b", "c"}, {"d"}, {}}
	for n, x := range []struct {
		b    [][]string
		want [4]bool
	}{
		{base, [4]bool{true, true, true, true}},
		{base[:3], [4]bool{true, true, true, true}},
		{[][]string{{"a"}, {"b", "c"}, {"d"}, nil, {"more"}}, [4]bool{true, true, true, true}},
		{[][]string{{"x"}, {"b", "c"}, {"d"}, {}}, [4]bool{false, false, false, false}},
		{[][]string{{"a", ""}, {"b", "c"}, {"d"}, {}}, [4]bool{false, false, false, false}},
		{[][]string{{}, {"b", "c"}, {"d"}, {}}, [4]bool{false, false, false, false}},
		{[][]string{{"a"}, {"b", "x"}, {"d"}, {}}, [4]bool{true, false, false, true}},
		{[][]string{{"a"}, {"c", "b"}, {"d"}, {}}, [4]bool{true, false, false, true}},
		{[][]string{{"a"}, {"b", "c"}, {"x"}, {}}, [4]bool{true, true, false, true}},
		{[][]string{{"a"}, {"b", "c"}, {"d"}, {"x"}}, [4]bool{true, false, false, false}},
		{[][]string{{"a"}, {"b", "c"}}, [4]bool{true, true, false, true}},
		{[][]string{{"a"}}, [4]bool{true, false, false, true}},
		{nil, [4]bool{false, false, false, false}},
	} {
		for part, want := range x.want {
			if got := route.Alike(p, base, x.b, part); got != want {
				t.Errorf("%d, %d: %v", n, part, got)
			}
			if got := route.Alike(p, x.b, base, part); got != want {
				t.Errorf("%d, %d, the other way: %v", n, part, got)
			}
		}
	}
	other := [][]string{{"a"}, {"x"}, {"x"}, {"x"}}
	for _, part := range []int{-1, 4, math.MinInt, math.MaxInt} {
		if !route.Alike(p, base, other, part) || route.Alike(p, base, nil, part) {
			t.Error("the partition 0 alone", part)
		}
	}
	if !route.Alike(api.Plan{}, nil, nil, 0) || route.Alike(api.Plan{}, base, nil, 0) {
		t.Error("an empty plan")
	}
}

// TestOwn: what is handed in stays as it was.
func TestOwn(t *testing.T) {
	p := joins(2, [2]int{0, 1}, [2]int{0, 1})
	before := slices.Clone(p.Chans)
	for _, l := range [][]api.Chan{route.Outs(p, 0), route.Ins(p, 1)} {
		for n := range l {
			l[n].Size = 99
		}
	}
	if !slices.Equal(p.Chans, before) {
		t.Error(p.Chans)
	}
}

// TestExample: the chapter's.
func TestExample(t *testing.T) {
	p := joins(3, [2]int{0, 1}, [2]int{0, 2}, [2]int{1, 2})
	if r, ok := route.To(p, 0, 1); r != (api.Route{Part: 2, Port: 0}) || !ok {
		t.Error(r, ok)
	}
	if got := route.Reach(p, 2); !slices.Equal(got, []int{0, 1, 2}) {
		t.Error(got)
	}
}
