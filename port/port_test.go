package port_test

import (
	"math"
	"slices"
	"strings"
	"testing"

	"transom/api"
	"transom/port"
)

func queue(size, depth int) api.Chan {
	return api.Chan{Kind: api.CQueue, From: 0, To: 1, Size: size, Depth: depth}
}

func sample(size int) api.Chan {
	return api.Chan{Kind: api.CSample, From: 0, To: 1, Size: size, Depth: 1}
}

// row is a box of messages, the one behind the other sent one later.
func row(lost int, l ...string) api.Box {
	b := api.Box{Lost: lost}
	for n, body := range l {
		b.L = append(b.L, api.Msg{At: uint64(n), Body: body})
	}
	return b
}

func same(a, b api.Box) bool { return a.Lost == b.Lost && slices.Equal(a.L, b.L) }

// TestSendQueue: P7.1, behind all, as long as there is room.
func TestSendQueue(t *testing.T) {
	for n, x := range []struct {
		c    api.Chan
		b    api.Box
		body string
		want api.Box
		e    api.Errno
	}{
		{queue(4, 2), row(0), "abcd", api.Box{L: []api.Msg{{At: 9, Body: "abcd"}}}, api.OK},
		{queue(4, 2), row(3, "x"), "", api.Box{L: []api.Msg{{At: 0, Body: "x"}, {At: 9, Body: ""}}, Lost: 3}, api.OK},
		{queue(4, 2), row(3, "x", "y"), "a", row(4, "x", "y"), api.OK},
		{queue(4, 2), row(3, "x", "y", "z"), "a", row(4, "x", "y", "z"), api.OK},
		{queue(4, 2), row(3, "x"), "abcde", row(3, "x"), api.ErrBig},
		{queue(4, 2), row(3, "x", "y"), "abcde", row(3, "x", "y"), api.ErrBig},
		{queue(0, 2), row(0), "", api.Box{L: []api.Msg{{At: 9}}}, api.OK},
		{queue(0, 2), row(0), "a", row(0), api.ErrBig},
		{queue(-1, 2), row(0), "", row(0), api.ErrBig},
		{queue(4, 0), row(0), "a", row(1), api.OK},
		{queue(4, -1), row(0), "a", row(1), api.OK},
		{queue(4, 0), row(math.MaxInt), "a", row(math.MinInt), api.OK},
		{queue(4, 0), row(-1), "a", row(0), api.OK},
		{api.Chan{Kind: 0, Size: 1, Depth: 1}, row(0), "a", api.Box{L: []api.Msg{{At: 9, Body: "a"}}}, api.OK},
		{api.Chan{Kind: 7, Size: 1, Depth: 1}, row(0, "x"), "a", row(1, "x"), api.OK},
		{api.Chan{Kind: -1, Size: 1, Depth: 1}, row(0, "x"), "a", row(1, "x"), api.OK},
	} {
		if b, e := port.Send(x.c, x.b, 9, x.body); !same(b, x.want) || e != x.e {
			t.Errorf("%d: %v %d", n, b, e)
		}
	}
}

// TestSendSample: P7.1, the last message alone waits; nothing is lost.
func TestSendSample(t *testing.T) {
	for n, x := range []struct {
		c    api.Chan
		b    api.Box
		body string
		want api.Box
		e    api.Errno
	}{
		{sample(4), row(0), "abcd", api.Box{L: []api.Msg{{At: 9, Body: "abcd"}}}, api.OK},
		{sample(4), row(5, "x"), "a", api.Box{L: []api.Msg{{At: 9, Body: "a"}}, Lost: 5}, api.OK},
		{sample(4), row(5, "x", "y"), "", api.Box{L: []api.Msg{{At: 9}}, Lost: 5}, api.OK},
		{sample(4), row(5, "x", "y"), "abcde", row(5, "x", "y"), api.ErrBig},
		{api.Chan{Kind: api.CSample, Size: 4, Depth: -3}, row(5, "x"), "a", api.Box{L: []api.Msg{{At: 9, Body: "a"}}, Lost: 5}, api.OK},
	} {
		if b, e := port.Send(x.c, x.b, 9, x.body); !same(b, x.want) || e != x.e {
			t.Errorf("%d: %v %d", n, b, e)
		}
	}
	if b, e := port.Send(sample(4), row(0), math.MaxUint64, "a"); e != api.OK || b.L[0].At != math.MaxUint64 {
		t.Error(b, e)
	}
}

// TestTake: P7.2, the first message, which a queue loses by it and a sample keeps.
func TestTake(t *testing.T) {
	for _, c := range []api.Chan{queue(4, 2), sample(4), {}, {Kind: 7}} {
		for _, l := range [][]string{nil, {"x"}, {"x", "y"}, {"x", "y", "z"}} {
			b := row(6, l...)
			if n := port.Waits(b); n != len(l) {
				t.Errorf("%v: %d", b, n)
			}
			m, ok := port.Peek(c, b)
			after, got, e := port.Take(c, b)
			if len(l) == 0 {
				if m != (api.Msg{}) || ok || !same(after, b) || got != m || e != api.ErrNone {
					t.Errorf("%v %v: %v %v %v %v %d", c, b, m, ok, after, got, e)
				}
				continue
			}
			want := api.Box{L: b.L[1:], Lost: 6}
			if c.Kind == api.CSample {
				want = b
			}
			if m != b.L[0] || !ok || !same(after, want) || got != m || e != api.OK {
				t.Errorf("%v %v: %v %v %v %v %d", c, b, m, ok, after, got, e)
			}
		}
	}
}

// TestSame: P7.2, the same messages, in order, and as many lost.
func TestSame(t *testing.T) {
	if !port.Same(row(1, "a", "b"), row(1, "a", "b")) || !port.Same(api.Box{}, api.Box{L: []api.Msg{}}) {
		t.Error("the same")
	}
	late := row(1, "a", "b")
	late.L[1].At++
	for _, b := range []api.Box{row(2, "a", "b"), row(1, "a"), row(1), row(1, "b", "a"), row(1, "a", "b", "c"), row(1, "a", "c"), row(1, "c", "b"), late} {
		if port.Same(b, row(1, "a", "b")) || port.Same(row(1, "a", "b"), b) {
			t.Errorf("%v", b)
		}
	}
}

// TestOwn: what is handed in stays as it was, whatever is done with what came out.
func TestOwn(t *testing.T) {
	b := api.Box{L: make([]api.Msg, 0, 8)}
	b.L = append(b.L, api.Msg{Body: "x"})
	one, _ := port.Send(queue(4, 8), b, 1, "one")
	two, _ := port.Send(queue(4, 8), b, 2, "two")
	if one.L[1].Body != "one" || two.L[1].Body != "two" {
		t.Error(one, two)
	}
	big, _ := port.Send(queue(4, 8), b, 1, "12345")
	lost, _ := port.Send(queue(4, 1), b, 1, "l")
	kept, _, _ := port.Take(sample(4), b)
	alone, _ := port.Send(sample(4), b, 1, "s")
	for _, x := range []api.Box{one, two, big, lost, kept, alone} {
		x.L[0].Body = "changed"
	}
	rest, _, _ := port.Take(queue(4, 8), api.Box{L: two.L})
	rest.L[0].Body = "changed"
	if b.L[0].Body != "x" || two.L[1].Body != "two" {
		t.Error(b, two)
	}
}

// TestRefusal: P7.3, what Send answers hangs on the length of the body alone.
func TestRefusal(t *testing.T) {
	for _, kind := range []int{api.CSample, api.CQueue} {
		for n := range 6 {
			for waits := range 4 {
				want := api.OK
				if n > 3 {
					want = api.ErrBig
				}
				c := api.Chan{Kind: kind, Size: 3, Depth: 2}
				if _, e := port.Send(c, row(0, []string{"a", "b", "c"}[:waits]...), 0, strings.Repeat("z", n)); e != want {
					t.Errorf("%d %d %d: %d", kind, n, waits, e)
				}
			}
		}
	}
}

// TestOrder: P7.3, taken in order, each once; as many as were sent are taken, wait or were lost.
func TestOrder(t *testing.T) {
	c := queue(2, 3)
	var b api.Box
	var model []byte
	taken, lost, next := 0, 0, byte(0)
	for n := range 500 {
		if n*n%7%4 == 0 {
			after, m, e := port.Take(c, b)
			if len(model) == 0 {
				if e != api.ErrNone {
					t.Fatal(n, e)
				}
				continue
			}
			if e != api.OK || m.Body != string(model[:1]) {
				t.Fatal(n, m, e)
			}
			model, b = model[1:], after
			taken++
			continue
		}
		b, _ = port.Send(c, b, uint64(n), string([]byte{next}))
		if len(model) < 3 {
			model = append(model, next)
		} else {
			lost++
		}
		next++
		if b.Lost != lost || port.Waits(b) != len(model) {
			t.Fatal(n, b, lost, model)
		}
	}
	if taken == 0 || lost == 0 {
		t.Error(taken, lost)
	}
}

// TestExamples: the chapter's.
func TestExamples(t *testing.T) {
	var b api.Box
	b, _ = port.Send(queue(1, 1), b, 1, "a")
	b, _ = port.Send(queue(1, 1), b, 2, "b")
	b, m, e := port.Take(queue(1, 1), b)
	if m != (api.Msg{At: 1, Body: "a"}) || e != api.OK || b.Lost != 1 {
		t.Error(b, m, e)
	}
	if _, _, e := port.Take(queue(1, 1), b); e != api.ErrNone {
		t.Error(e)
	}
	b = api.Box{}
	b, _ = port.Send(sample(1), b, 1, "a")
	b, _ = port.Send(sample(1), b, 2, "b")
	for range 2 {
		b, m, e = port.Take(sample(1), b)
		if m != (api.Msg{At: 2, Body: "b"}) || e != api.OK || b.Lost != 0 {
			t.Error(b, m, e)
		}
	}
}
