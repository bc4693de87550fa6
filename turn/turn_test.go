package turn_test

import (
	"math"
	"slices"
	"testing"

	"transom/api"
	"transom/turn"
)

func row(left int, l ...int) api.Turn { return api.Turn{L: l, Left: left} }

func same(a, b api.Turn) bool { return a.Left == b.Left && slices.Equal(a.L, b.L) }

// TestFirst: P9.1.
func TestFirst(t *testing.T) {
	for _, x := range []struct {
		t   api.Turn
		pid int
		ok  bool
	}{{row(0), 0, false}, {row(5), 0, false}, {row(0, 7), 7, true}, {row(3, 2, 7), 2, true}, {row(3, 0, 7), 0, true}, {row(3, -4), -4, true}} {
		if pid, ok := turn.First(x.t); pid != x.pid || ok != x.ok {
			t.Errorf("%v: %d %v", x.t, pid, ok)
		}
	}
}

// TestAdd: P9.1, behind all, unless somebody is there.
func TestAdd(t *testing.T) {
	for _, x := range []struct {
		t    api.Turn
		pid  int
		want api.Turn
	}{
		{row(0), 4, row(5, 4)},
		{row(2), 4, row(5, 4)},
		{row(-9), 0, row(5, 0)},
		{row(2, 1), 4, row(2, 1, 4)},
		{row(2, 9, 8), 4, row(2, 9, 8, 4)},
		{row(-2, 9), 4, row(-2, 9, 4)},
		{row(2, 4), 4, row(2, 4)},
		{row(2, 9, 4, 8), 4, row(2, 9, 4, 8)},
		{row(2, 9, 8, 4), 4, row(2, 9, 8, 4)},
	} {
		if got := turn.Add(x.t, x.pid); !same(got, x.want) {
			t.Errorf("%v, %d: %v", x.t, x.pid, got)
		}
	}
}

// TestDrop: P9.1, from wherever it stands.
func TestDrop(t *testing.T) {
	for _, x := range []struct {
		t    api.Turn
		pid  int
		want api.Turn
	}{
		{row(2), 4, row(2)},
		{row(2, 4), 4, row(5)},
		{row(2, 4, 6), 4, row(5, 6)},
		{row(2, 6, 4), 4, row(2, 6)},
		{row(2, 6, 4, 7), 4, row(2, 6, 7)},
		{row(2, 6, 7), 4, row(2, 6, 7)},
		{row(-3, 6, 7), 0, row(-3, 6, 7)},
		{row(2, 4, 6, 4, 4, 7, 4), 4, row(5, 6, 7)},
		{row(2, 6, 4, 4, 7, 4), 4, row(2, 6, 7)},
		{row(2, 4, 4), 4, row(5)},
	} {
		if got := turn.Drop(x.t, x.pid); !same(got, x.want) {
			t.Errorf("%v, %d: %v", x.t, x.pid, got)
		}
	}
}

// TestYield: P9.2, the first one stands behind all others.
func TestYield(t *testing.T) {
	for _, x := range []struct{ t, want api.Turn }{
		{row(2), row(2)},
		{row(-1), row(-1)},
		{row(2, 4), row(5, 4)},
		{row(2, 4, 6), row(5, 6, 4)},
		{row(0, 4, 6, 7), row(5, 6, 7, 4)},
		{row(9, 4, 4, 7), row(5, 4, 7, 4)},
	} {
		if got := turn.Yield(x.t); !same(got, x.want) {
			t.Errorf("%v: %v", x.t, got)
		}
	}
}

// TestSpend: P9.2, one less; the turn goes on, if nothing is left.
func TestSpend(t *testing.T) {
	for _, x := range []struct{ t, want api.Turn }{
		{row(2), row(2)},
		{row(0), row(0)},
		{row(math.MinInt), row(math.MinInt)},
		{row(5, 4, 6), row(4, 4, 6)},
		{row(2, 4, 6), row(1, 4, 6)},
		{row(1, 4, 6), row(5, 6, 4)},
		{row(1, 4), row(5, 4)},
		{row(0, 4, 6), row(5, 6, 4)},
		{row(-7, 4, 6), row(5, 6, 4)},
		{row(9, 4, 6), row(8, 4, 6)},
		{row(math.MinInt, 4, 6), row(math.MaxInt, 4, 6)},
		{row(math.MinInt+1, 4, 6), row(5, 6, 4)},
		{row(math.MaxInt, 4, 6), row(math.MaxInt-1, 4, 6)},
	} {
		if got := turn.Spend(x.t); !same(got, x.want) {
			t.Errorf("%v: %v", x.t, got)
		}
	}
}

// TestSame: P9.1.
func TestSame(t *testing.T) {
	if !turn.Same(row(1, 2, 3), row(1, 2, 3)) || !turn.Same(api.Turn{}, api.Turn{L: []int{}}) {
		t.Error("the same")
	}
	for _, x := range []api.Turn{row(2, 2, 3), row(1, 3, 2), row(1, 2), row(1), row(1, 2, 3, 4), row(1, 2, 4)} {
		if turn.Same(x, row(1, 2, 3)) || turn.Same(row(1, 2, 3), x) {
			t.Error(x)
		}
	}
}

// TestOwn: what is handed in stays as it was, whatever is done with what came out.
func TestOwn(t *testing.T) {
	l := append(make([]int, 0, 9), 1, 2, 3)
	x := api.Turn{L: l, Left: 1}
	a, b := turn.Add(x, 4), turn.Add(x, 5)
	if a.L[3] != 4 || b.L[3] != 5 {
		t.Error(a, b)
	}
	kept := x
	kept.Left = 4
	for _, y := range []api.Turn{a, b, turn.Add(x, 2), turn.Drop(x, 1), turn.Drop(x, 3), turn.Drop(x, 9), turn.Spend(x), turn.Spend(kept), turn.Yield(x)} {
		for n := range y.L {
			y.L[n] = 99
		}
	}
	if !slices.Equal(l, []int{1, 2, 3}) || !slices.Equal(l[:5], []int{1, 2, 3, 0, 0}) {
		t.Error(l[:5])
	}
}

// TestNobodyLoses: P9.3, with each Yield all others come one nearer; nobody waits longer than a quantum of each ahead of it.
func TestNobodyLoses(t *testing.T) {
	x := row(5, 1, 2, 3, 4, 6, 7)
	for n, pid := range x.L {
		y := x
		for range n {
			y = turn.Yield(y)
		}
		if first, ok := turn.First(y); first != pid || !ok {
			t.Errorf("%d: %d %v", n, first, ok)
		}
		y = x
		for c := range 5 * n {
			if first, _ := turn.First(y); first == pid {
				t.Errorf("%d: at %d", pid, c)
			}
			y = turn.Spend(y)
		}
		for c := range 5 {
			if first, _ := turn.First(y); first != pid {
				t.Errorf("%d: %d at %d", pid, first, c)
			}
			y = turn.Spend(y)
		}
	}
}

// TestExample: the chapter's.
func TestExample(t *testing.T) {
	x := turn.Add(turn.Add(api.Turn{}, 1), 2)
	for n := range 5 {
		if first, _ := turn.First(x); first != 1 {
			t.Error(n, first)
		}
		x = turn.Spend(x)
	}
	if first, ok := turn.First(x); first != 2 || !ok {
		t.Error(first, ok)
	}
}
