package pipe_test

import (
	"math"
	"slices"
	"strings"
	"testing"

	"transom/api"
	"transom/pipe"
)

func with(data string, readers, writers int) api.Pipe {
	return api.Pipe{Data: data, Readers: readers, Writers: writers}
}

// TestWrite: P10.1, in the order of the promise.
func TestWrite(t *testing.T) {
	for _, x := range []struct {
		p    api.Pipe
		s    string
		data string
		n    int
		e    api.Errno
	}{
		{with("", 1, 1), "", "", 0, api.OK},
		{with("", 0, 1), "", "", 0, api.OK},
		{with("12345678", 0, 1), "", "12345678", 0, api.OK},
		{with("12345678", 1, 1), "", "12345678", 0, api.OK},
		{with("", 0, 1), "a", "", 0, api.ErrEnd},
		{with("", -1, 1), "a", "", 0, api.ErrEnd},
		{with("", math.MinInt, 1), "a", "", 0, api.ErrEnd},
		{with("12345678", 0, 1), "a", "12345678", 0, api.ErrEnd},
		{with("12345678", 1, 1), "a", "12345678", 0, api.ErrAgain},
		{with("123456789", 1, 1), "a", "123456789", 0, api.ErrAgain},
		{with("", 1, 1), "a", "a", 1, api.OK},
		{with("", 3, 0), "ab", "ab", 2, api.OK},
		{with("", 1, -5), "12345678", "12345678", 8, api.OK},
		{with("", 1, 1), "123456789", "12345678", 8, api.OK},
		{with("x", 1, 1), "12345678", "x1234567", 7, api.OK},
		{with("1234567", 1, 1), "xyz", "1234567x", 1, api.OK},
		{with("123", 1, 1), "xyz", "123xyz", 3, api.OK},
	} {
		want := x.p
		want.Data = x.data
		if p, n, e := pipe.Write(x.p, x.s); p != want || n != x.n || e != x.e {
			t.Errorf("%v %q: %v %d %d", x.p, x.s, p, n, e)
		}
	}
}

// TestRead: P10.1, in the order of the promise.
func TestRead(t *testing.T) {
	for _, x := range []struct {
		p    api.Pipe
		n    int
		data string
		s    string
		e    api.Errno
	}{
		{with("abc", 1, 1), -1, "abc", "", api.ErrArg},
		{with("abc", 1, 1), math.MinInt, "abc", "", api.ErrArg},
		{with("", 1, 1), -1, "", "", api.ErrArg},
		{with("", 1, 1), 0, "", "", api.OK},
		{with("", 1, 0), 0, "", "", api.OK},
		{with("abc", 1, 1), 0, "abc", "", api.OK},
		{with("", 1, 1), 1, "", "", api.ErrAgain},
		{with("", 0, 7), 9, "", "", api.ErrAgain},
		{with("", 1, 0), 1, "", "", api.OK},
		{with("", 1, -1), 1, "", "", api.OK},
		{with("", 1, math.MinInt), 1, "", "", api.OK},
		{with("abc", 1, 1), 1, "bc", "a", api.OK},
		{with("abc", 0, 0), 2, "c", "ab", api.OK},
		{with("abc", 1, 0), 3, "", "abc", api.OK},
		{with("abc", 1, 1), 4, "", "abc", api.OK},
		{with("abc", 1, 1), math.MaxInt, "", "abc", api.OK},
		{with("123456789", 1, 1), 9, "", "123456789", api.OK},
	} {
		want := x.p
		want.Data = x.data
		if p, s, e := pipe.Read(x.p, x.n); p != want || s != x.s || e != x.e {
			t.Errorf("%v %d: %v %q %d", x.p, x.n, p, s, e)
		}
	}
}

// TestMake: P10.2, the first free one, or a new one.
func TestMake(t *testing.T) {
	made, used := with("", 1, 1), with("u", 1, 0)
	for n, x := range []struct {
		l, want []api.Pipe
		k       int
		e       api.Errno
	}{
		{nil, []api.Pipe{made}, 1, api.OK},
		{[]api.Pipe{used}, []api.Pipe{used, made}, 2, api.OK},
		{[]api.Pipe{used, with("", 0, 1), used}, []api.Pipe{used, with("", 0, 1), used, made}, 4, api.OK},
		{[]api.Pipe{with("old", 0, 0), used}, []api.Pipe{made, used}, 1, api.OK},
		{[]api.Pipe{used, with("old", -1, 0), with("", 0, 0)}, []api.Pipe{used, made, with("", 0, 0)}, 2, api.OK},
		{[]api.Pipe{used, used, used, with("", 0, -7)}, []api.Pipe{used, used, used, made}, 4, api.OK},
		{[]api.Pipe{used, used, used, used}, []api.Pipe{used, used, used, used}, 0, api.ErrFull},
		{[]api.Pipe{used, used, used, with("", -1, 1)}, []api.Pipe{used, used, used, with("", -1, 1)}, 0, api.ErrFull},
		{[]api.Pipe{used, used, used, used, used}, []api.Pipe{used, used, used, used, used}, 0, api.ErrFull},
		{[]api.Pipe{used, used, used, used, {}}, []api.Pipe{used, used, used, used, made}, 5, api.OK},
	} {
		if l, k, e := pipe.Make(x.l); !slices.Equal(l, x.want) || k != x.k || e != x.e {
			t.Errorf("%d: %v %d %d", n, l, k, e)
		}
	}
}

// TestCount: P10.2, of the pipe of the end, if it is there.
func TestCount(t *testing.T) {
	l := []api.Pipe{with("a", 1, 2), with("b", 3, 4)}
	for n, x := range []struct {
		e    api.End
		by   int
		want []api.Pipe
	}{
		{api.End{Pipe: 1}, 1, []api.Pipe{with("a", 2, 2), l[1]}},
		{api.End{Pipe: 1, Writes: true}, 1, []api.Pipe{with("a", 1, 3), l[1]}},
		{api.End{Pipe: 2}, -1, []api.Pipe{l[0], with("b", 2, 4)}},
		{api.End{Pipe: 2, Writes: true}, -9, []api.Pipe{l[0], with("b", 3, -5)}},
		{api.End{Pipe: 2, Writes: true}, 0, l},
		{api.End{Pipe: 0}, 1, l},
		{api.End{Pipe: 3, Writes: true}, 1, l},
		{api.End{Pipe: -1}, 1, l},
		{api.End{Pipe: math.MinInt}, 1, l},
		{api.End{Pipe: math.MaxInt}, 1, l},
		{api.End{Pipe: 1}, math.MaxInt, []api.Pipe{with("a", math.MinInt, 2), l[1]}},
	} {
		if got := pipe.Count(l, x.e, x.by); !slices.Equal(got, x.want) {
			t.Errorf("%d: %v", n, got)
		}
	}
	if got := pipe.Count(nil, api.End{Pipe: 1}, 1); len(got) != 0 {
		t.Error(got)
	}
}

// TestSet: P10.3, the first place whose Pipe is 0.
func TestSet(t *testing.T) {
	e := api.End{Pipe: 9, Writes: true}
	one := api.End{Pipe: 1}
	for _, x := range []struct {
		fds [api.MaxFds]api.End
		n   int
		e   api.Errno
	}{
		{[api.MaxFds]api.End{}, 0, api.OK},
		{[api.MaxFds]api.End{one}, 1, api.OK},
		{[api.MaxFds]api.End{{Writes: true}, one}, 0, api.OK},
		{[api.MaxFds]api.End{one, one, {Pipe: -1}}, 3, api.OK},
		{[api.MaxFds]api.End{one, {}, one, {}}, 1, api.OK},
		{[api.MaxFds]api.End{one, one, one, one}, 0, api.ErrFull},
	} {
		want := x.fds
		if x.e == api.OK {
			want[x.n] = e
		}
		if fds, n, err := pipe.Set(x.fds, e); fds != want || n != x.n || err != x.e {
			t.Errorf("%v: %v %d %d", x.fds, fds, n, err)
		}
	}
}

// TestRight: P10.3.
func TestRight(t *testing.T) {
	for _, p := range []api.Pipe{{}, with("12345678", 0, 0), with("", 5, 7)} {
		if !pipe.Right(p) {
			t.Error(p)
		}
	}
	for _, p := range []api.Pipe{with("123456789", 0, 0), with("", -1, 0), with("", 0, -1), with("", math.MinInt, math.MinInt)} {
		if pipe.Right(p) {
			t.Error(p)
		}
	}
}

// TestOwn: what is handed in stays as it was, whatever is done with what came out.
func TestOwn(t *testing.T) {
	l := append(make([]api.Pipe, 0, 9), with("a", 1, 1), with("b", 0, 0))
	before := slices.Clone(l)
	full := slices.Repeat([]api.Pipe{with("c", 1, 1)}, 4)
	a, _, _ := pipe.Make(l)
	b := pipe.Count(l, api.End{Pipe: 1}, 1)
	c := pipe.Count(l, api.End{Pipe: 8}, 1)
	d, _, _ := pipe.Make(l[:1])
	e, _, _ := pipe.Make(full)
	for _, x := range [][]api.Pipe{a, b, c, d, e} {
		for n := range x {
			x[n].Data = "changed"
		}
	}
	if !slices.Equal(l, before) || full[0].Data != "c" {
		t.Error(l, full)
	}
}

// TestInOrder: P10.4, what was written is read, in order, each byte once; a right pipe stays right.
func TestInOrder(t *testing.T) {
	p := with("", 1, 1)
	var written, read strings.Builder
	next := byte('a')
	for n := range 400 {
		if n%3 == 0 || n%7 == 1 {
			s := strings.Repeat(string([]byte{next}), n%11)
			after, k, _ := pipe.Write(p, s)
			written.WriteString(s[:k])
			p, next = after, 'a'+(next-'a'+1)%26
		} else {
			after, s, _ := pipe.Read(p, n%5)
			read.WriteString(s)
			p = after
		}
		if !pipe.Right(p) || read.String()+p.Data != written.String() {
			t.Fatal(n, p)
		}
	}
	if read.Len() < 100 {
		t.Error(read.Len())
	}
}

// TestExample: the chapter's.
func TestExample(t *testing.T) {
	p, n, e := pipe.Write(with("", 1, 1), "0123456789")
	if n != 8 || e != api.OK {
		t.Error(n, e)
	}
	p, s, e := pipe.Read(p, 3)
	if s != "012" || e != api.OK {
		t.Error(s, e)
	}
	if _, n, e := pipe.Write(p, "abcd"); n != 3 || e != api.OK {
		t.Error(n, e)
	}
}
