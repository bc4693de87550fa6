package heap_test

import (
	"math"
	"slices"
	"testing"

	"transom/api"
	"transom/heap"
)

func same(a, b api.Heap) bool { return a.Size == b.Size && slices.Equal(a.L, b.L) }

// room is a heap of some pieces.
func room(size int, l ...api.Span) api.Heap { return api.Heap{Size: size, L: l} }

// TestNew: P4.1, rooms of all sizes.
func TestNew(t *testing.T) {
	for _, n := range []int{0, 1, 10, math.MaxInt} {
		if h, e := heap.New(n); !same(h, room(n)) || e != api.OK {
			t.Errorf("%d: %v %d", n, h, e)
		}
	}
	for _, n := range []int{-1, math.MinInt} {
		if h, e := heap.New(n); !same(h, api.Heap{}) || e != api.ErrArg {
			t.Errorf("%d: %v %d", n, h, e)
		}
	}
}

// wrong are heaps that are not right.
var wrong = []api.Heap{
	room(-1),
	room(math.MinInt),
	room(-1, api.Span{At: 0, N: 1}),
	room(10, api.Span{At: -1, N: 2}),
	room(10, api.Span{At: math.MinInt, N: 2}),
	room(10, api.Span{At: math.MinInt, N: math.MinInt}),
	room(10, api.Span{At: 3, N: 0}),
	room(10, api.Span{At: 3, N: -1}),
	room(10, api.Span{At: 3, N: math.MinInt}),
	room(10, api.Span{At: 3, N: 8}),
	room(10, api.Span{At: 10, N: 1}),
	room(10, api.Span{At: 3, N: math.MaxInt}),
	room(10, api.Span{At: math.MaxInt, N: 1}),
	room(10, api.Span{At: math.MaxInt, N: math.MaxInt}),
	room(math.MaxInt, api.Span{At: 1, N: math.MaxInt}),
	room(10, api.Span{At: 2, N: 3}, api.Span{At: 4, N: 1}),
	room(10, api.Span{At: 2, N: 3}, api.Span{At: 2, N: 3}),
	room(10, api.Span{At: 5, N: 3}, api.Span{At: 0, N: 3}),
	room(10, api.Span{At: 5, N: 3}, api.Span{At: math.MinInt, N: 3}),
	room(10, api.Span{At: 2, N: 3}, api.Span{At: 5, N: 6}),
	room(10, api.Span{At: 2, N: 9}, api.Span{At: 5, N: 1}),
	room(0, api.Span{At: 0, N: 1}),
}

// TestWrong: P4.1 and P4.2, a heap that isn't right has no holes, and nothing is taken of it.
func TestWrong(t *testing.T) {
	for n, h := range wrong {
		if heap.Right(h) || len(heap.Holes(h)) != 0 || heap.Left(h) != 0 {
			t.Errorf("%d: %v: %v %v %d", n, h, heap.Right(h), heap.Holes(h), heap.Left(h))
		}
		if g, at, e := heap.Take(h, 1, 7); !same(g, h) || at != 0 || e != api.ErrArg {
			t.Errorf("%d: %v: %v %d %d", n, h, g, at, e)
		}
	}
}

// TestHoles: P4.1, of right heaps.
func TestHoles(t *testing.T) {
	for n, x := range []struct {
		h     api.Heap
		holes []api.Span
		left  int
	}{
		{room(0), nil, 0},
		{room(10), []api.Span{{At: 0, N: 10}}, 10},
		{room(10, api.Span{At: 0, N: 10, Who: 3}), nil, 0},
		{room(10, api.Span{At: 0, N: 4, Who: 3}), []api.Span{{At: 4, N: 6}}, 6},
		{room(10, api.Span{At: 6, N: 4, Who: 3}), []api.Span{{At: 0, N: 6}}, 6},
		{room(10, api.Span{At: 1, N: 2, Who: 3}, api.Span{At: 3, N: 2, Who: -1}, api.Span{At: 7, N: 1}), []api.Span{{At: 0, N: 1}, {At: 5, N: 2}, {At: 8, N: 2}}, 5},
		{room(math.MaxInt, api.Span{At: 1, N: 1}), []api.Span{{At: 0, N: 1}, {At: 2, N: math.MaxInt - 2}}, math.MaxInt - 1},
		{room(math.MaxInt, api.Span{At: 1, N: math.MaxInt - 1}), []api.Span{{At: 0, N: 1}}, 1},
	} {
		if !heap.Right(x.h) || !slices.Equal(heap.Holes(x.h), x.holes) || heap.Left(x.h) != x.left {
			t.Errorf("%d: %v %v %d", n, heap.Right(x.h), heap.Holes(x.h), heap.Left(x.h))
		}
	}
}

// TestTake: P4.2, the first hole that has room, and where the piece stands.
func TestTake(t *testing.T) {
	h := room(20, api.Span{At: 2, N: 3, Who: 1}, api.Span{At: 8, N: 2, Who: 2}, api.Span{At: 15, N: 1, Who: 3})
	for _, x := range []struct {
		n, at, place int
		e            api.Errno
	}{
		{1, 0, 0, api.OK}, {2, 0, 0, api.OK}, {3, 5, 1, api.OK}, {4, 10, 2, api.OK}, {5, 10, 2, api.OK},
		{6, 0, 0, api.ErrFull}, {20, 0, 0, api.ErrFull}, {math.MaxInt, 0, 0, api.ErrFull},
		{0, 0, 0, api.ErrArg}, {-1, 0, 0, api.ErrArg}, {math.MinInt, 0, 0, api.ErrArg},
	} {
		want := room(20, h.L...)
		if x.e == api.OK {
			want.L = slices.Insert(slices.Clone(h.L), x.place, api.Span{At: x.at, N: x.n, Who: 9})
		}
		if g, at, e := heap.Take(h, x.n, 9); !same(g, want) || at != x.at || e != x.e {
			t.Errorf("%d: %v %d %d", x.n, g, at, e)
		}
	}
	full := room(20, api.Span{At: 0, N: 8}, api.Span{At: 8, N: 7}, api.Span{At: 15, N: 1}, api.Span{At: 17, N: 3})
	if g, at, e := heap.Take(full, 1, 5); at != 16 || e != api.OK || g.L[3] != (api.Span{At: 16, N: 1, Who: 5}) {
		t.Error(g, at, e)
	}
	if g, at, e := heap.Take(room(0), 1, 5); !same(g, room(0)) || at != 0 || e != api.ErrFull {
		t.Error(g, at, e)
	}
}

// TestFree: P4.2, the first piece at a place goes, of any heap.
func TestFree(t *testing.T) {
	h := room(1, api.Span{At: 5, N: 1, Who: 1}, api.Span{At: 3, N: 2, Who: 2}, api.Span{At: 5, N: 3, Who: 3}, api.Span{At: -1, N: 0, Who: 4})
	for _, x := range []struct {
		at, place int
	}{{5, 0}, {3, 1}, {-1, 3}} {
		want := room(1, slices.Delete(slices.Clone(h.L), x.place, x.place+1)...)
		if g, e := heap.Free(h, x.at); !same(g, want) || e != api.OK {
			t.Errorf("%d: %v %d", x.at, g, e)
		}
	}
	for _, at := range []int{0, 4, 6, math.MinInt} {
		if g, e := heap.Free(h, at); !same(g, h) || e != api.ErrNone {
			t.Errorf("%d: %v %d", at, g, e)
		}
	}
	if g, e := heap.Free(room(10), 0); !same(g, room(10)) || e != api.ErrNone {
		t.Error(g, e)
	}
}

// TestDrop: P4.2, all pieces of somebody go, of any heap.
func TestDrop(t *testing.T) {
	h := room(4, api.Span{At: 5, N: 1, Who: 1}, api.Span{At: 3, N: 2, Who: 2}, api.Span{At: 5, N: 3, Who: 1}, api.Span{At: 9, Who: -1})
	for _, x := range []struct {
		who  int
		want []api.Span
	}{
		{1, []api.Span{h.L[1], h.L[3]}},
		{2, []api.Span{h.L[0], h.L[2], h.L[3]}},
		{-1, h.L[:3]},
		{0, h.L},
	} {
		if g := heap.Drop(h, x.who); !same(g, room(4, x.want...)) {
			t.Errorf("%d: %v", x.who, g)
		}
	}
}

// TestOwn: what is handed in stays as it was, whatever is done with what came out.
func TestOwn(t *testing.T) {
	l := make([]api.Span, 0, 20)
	l = append(l, api.Span{At: 0, N: 1, Who: 1}, api.Span{At: 2, N: 1, Who: 2})
	h := room(10, l...)
	before := slices.Clone(h.L)
	a, _, _ := heap.Take(h, 3, 3)
	b, _, _ := heap.Take(h, 4, 4)
	c, _ := heap.Free(h, 0)
	d := heap.Drop(h, 2)
	if a.L[2].Who != 3 || b.L[2].Who != 4 || len(c.L) != 1 || len(d.L) != 1 || !slices.Equal(h.L, before) {
		t.Error(a, b, c, d, h)
	}
	for _, g := range []api.Heap{a, b, c, d} {
		for n := range g.L {
			g.L[n].At = 99
		}
	}
	none, _ := heap.Free(h, 77)
	full, _, _ := heap.Take(h, 77, 1)
	none.L[0].At, full.L[0].At = 88, 88
	if !slices.Equal(h.L, before) {
		t.Error(h)
	}
}

// taken are the places of a heap, each with whose it is; nothing overlaps.
func taken(t *testing.T, h api.Heap) []int {
	m := make([]int, h.Size)
	for _, s := range h.L {
		for n := range s.N {
			if m[s.At+n] != 0 {
				t.Fatalf("%v overlaps at %d", h, s.At+n)
			}
			m[s.At+n] = s.Who
		}
	}
	return m
}

// TestStaysRight: P4.3, over many takes, frees and drops.
func TestStaysRight(t *testing.T) {
	h, _ := heap.New(40)
	seed := uint32(7)
	next := func(n int) int {
		seed = seed*1664525 + 1013904223
		return int(seed>>8) % n
	}
	for range 5000 {
		before := taken(t, h)
		n, who := next(7)+1, next(4)+1
		switch next(4) {
		case 0:
			h = heap.Drop(h, who)
		case 1:
			if len(h.L) > 0 {
				h, _ = heap.Free(h, h.L[next(len(h.L))].At)
			}
		default:
			g, at, e := heap.Take(h, n, who)
			fits := first(before, n)
			if e == api.ErrFull && (fits >= 0 || !same(g, h)) || e == api.OK && at != fits {
				t.Fatal(h, n, g, at, e)
			}
			if e == api.OK {
				if back, e := heap.Free(g, at); !same(back, h) || e != api.OK {
					t.Fatal(h, n, g, back)
				}
			}
			h = g
		}
		if !heap.Right(h) {
			t.Fatal(h)
		}
		free := 0
		for _, who := range taken(t, h) {
			if who == 0 {
				free++
			}
		}
		if heap.Left(h) != free {
			t.Fatal(h, free)
		}
	}
}

// first is the first place with n free ones; -1, if there is none.
func first(m []int, n int) int {
	free := 0
	for at, who := range m {
		free++
		if who != 0 {
			free = 0
		}
		if free == n {
			return at - n + 1
		}
	}
	return -1
}

// TestExample: the chapter's.
func TestExample(t *testing.T) {
	h, _ := heap.New(10)
	h, a, _ := heap.Take(h, 4, 1)
	h, b, _ := heap.Take(h, 4, 2)
	_, _, e := heap.Take(h, 4, 3)
	h, f := heap.Free(h, 0)
	_, c, _ := heap.Take(h, 3, 4)
	if a != 0 || b != 4 || e != api.ErrFull || f != api.OK || c != 0 {
		t.Error(a, b, e, f, c)
	}
}
