package plan_test

import (
	"math"
	"slices"
	"strings"
	"testing"

	"transom/api"
	"transom/plan"
)

// whole is a plan that may be, of two partitions, three schedules and two channels; each call makes it anew.
func whole() api.Plan {
	return api.Plan{
		Parts: []api.Part{{Mem: 64, Act: [3]int{1, 2, 3}}, {Mem: 1024, Act: [3]int{3, 1, 2}}},
		Frame: 300,
		Wins: [][]api.Win{
			{{Part: 0, From: 0, Len: 12}, {Part: 1, From: 12, Len: 258}, {Part: 0, From: 297, Len: 3}},
			{},
			{{Part: 1, From: 5, Len: 295}},
		},
		Chans: []api.Chan{{Kind: api.CQueue, From: 0, To: 1, Size: 4, Depth: 2}, {Kind: api.CSample, From: 1, To: 0, Size: 32, Depth: 1}},
	}
}

const wholeBytes = "TP" +
	"\x00\x02" + "\x00\x40\x00\x01\x00\x02\x00\x03" + "\x04\x00\x00\x03\x00\x01\x00\x02" +
	"\x01\x2c" +
	"\x00\x03" +
	"\x00\x03" + "\x00\x00\x00\x00\x00\x0c" + "\x00\x01\x00\x0c\x01\x02" + "\x00\x00\x01\x29\x00\x03" +
	"\x00\x00" +
	"\x00\x01" + "\x00\x01\x00\x05\x01\x27" +
	"\x00\x02" + "\x00\x02\x00\x00\x00\x01\x00\x04\x00\x02" + "\x00\x01\x00\x01\x00\x00\x00\x20\x00\x01"

// one is the chapter's example.
func one() api.Plan {
	return api.Plan{Parts: []api.Part{{Mem: 64, Act: [3]int{1, 1, 1}}}, Frame: 10, Wins: [][]api.Win{{{Part: 0, From: 0, Len: 10}}}}
}

// TestMay: P5.1, plans that may be.
func TestMay(t *testing.T) {
	for n, change := range []func(*api.Plan){
		func(p *api.Plan) {},
		func(p *api.Plan) { p.Chans = nil },
		func(p *api.Plan) { p.Wins = [][]api.Win{nil} },
		func(p *api.Plan) { p.Parts[0].Mem = 68 },
		func(p *api.Plan) { p.Parts[0].Act = [3]int{3, 3, 3} },
		func(p *api.Plan) { p.Frame = 4096 },
		func(p *api.Plan) { p.Wins[0][1].From = 13 },
		func(p *api.Plan) { p.Wins[0][0].Len = 3 },
		func(p *api.Plan) { p.Wins[0][2].From, p.Wins[0][2].Len = 270, 30 },
		func(p *api.Plan) { p.Chans[0].Size, p.Chans[0].Depth = 32, 8 },
		func(p *api.Plan) { p.Chans[0].Size, p.Chans[0].Depth = 1, 1 },
		func(p *api.Plan) { p.Frame, p.Wins = 1, [][]api.Win{nil, nil, nil} },
		func(p *api.Plan) {
			p.Frame, p.Wins = 3, [][]api.Win{{{Part: 1, From: 0, Len: 3}}}
		},
		func(p *api.Plan) {
			p.Parts = append(p.Parts, p.Parts[0], p.Parts[0])
			p.Chans[0].From, p.Chans[1].To = 3, 2
			for n := range 8 {
				p.Wins[1] = append(p.Wins[1], api.Win{Part: n % 4, From: 3 * n, Len: 3})
			}
			p.Chans = append(p.Chans, p.Chans[0], p.Chans[0], p.Chans[0], p.Chans[1])
		},
	} {
		p := whole()
		change(&p)
		if e := plan.Check(p); e != api.OK {
			t.Errorf("%d: %d", n, e)
		}
		s, e := plan.Bytes(p)
		back, f := plan.Take(s)
		if e != api.OK || f != api.OK || !plan.Same(back, p) {
			t.Errorf("%d: %q %d: %v %d", n, s, e, back, f)
		}
	}
}

// bad are changes of the whole plan, each with the error of what comes of it.
func bad() []struct {
	name   string
	change func(*api.Plan)
	e      api.Errno
} {
	type row = struct {
		name   string
		change func(*api.Plan)
		e      api.Errno
	}
	l := []row{
		{"parts", func(p *api.Plan) { p.Parts = slices.Repeat(p.Parts[:1], 5) }, api.ErrBig},
		{"schedules", func(p *api.Plan) { p.Wins = append(p.Wins, nil) }, api.ErrBig},
		{"chans", func(p *api.Plan) { p.Chans = slices.Repeat(p.Chans[:1], 7) }, api.ErrBig},
		{"windows", func(p *api.Plan) { p.Wins[1] = slices.Repeat(p.Wins[0][:1], 9) }, api.ErrBig},
		{"no part", func(p *api.Plan) { p.Parts = nil }, api.ErrArg},
		{"no schedule", func(p *api.Plan) { p.Wins = nil }, api.ErrArg},
		{"overlap", func(p *api.Plan) { p.Wins[0][1].From = 11 }, api.ErrState},
		{"overlap of all", func(p *api.Plan) { p.Wins[0][1].From = 0 }, api.ErrState},
		{"order", func(p *api.Plan) { p.Wins[0][0].From = 200 }, api.ErrState},
		{"depth of a sample", func(p *api.Plan) { p.Chans[1].Depth = 2 }, api.ErrArg},
		{"from one to the same", func(p *api.Plan) { p.Chans[0].To = 0 }, api.ErrArg},
		{"too long by one", func(p *api.Plan) { p.Wins[2][0].Len = 296 }, api.ErrArg},
	}
	field := func(name string, at func(*api.Plan) *int, values ...int) {
		for _, v := range values {
			l = append(l, row{name, func(p *api.Plan) { *at(p) = v }, api.ErrArg})
		}
	}
	field("mem", func(p *api.Plan) *int { return &p.Parts[1].Mem }, math.MinInt, -64, 0, 4, 60, 63, 65, 66, 67, 1023, 1025, 1028, math.MaxInt-3, math.MaxInt)
	for n := range 3 {
		field("act", func(p *api.Plan) *int { return &p.Parts[1].Act[n] }, math.MinInt, -1, 0, 4, math.MaxInt)
	}
	field("frame", func(p *api.Plan) *int { return &p.Frame }, math.MinInt, -1, 0, 299, 4097, math.MaxInt)
	field("part of a window", func(p *api.Plan) *int { return &p.Wins[0][2].Part }, math.MinInt, -1, 2, math.MaxInt)
	field("from of a window", func(p *api.Plan) *int { return &p.Wins[0][2].From }, math.MinInt, -1, 298, math.MaxInt)
	field("len of a window", func(p *api.Plan) *int { return &p.Wins[0][2].Len }, math.MinInt, -1, 0, 1, 2, 4, math.MaxInt-296, math.MaxInt)
	field("kind", func(p *api.Plan) *int { return &p.Chans[1].Kind }, math.MinInt, -1, 0, 3, math.MaxInt)
	field("from", func(p *api.Plan) *int { return &p.Chans[1].From }, math.MinInt, -1, 0, 2, math.MaxInt)
	field("to", func(p *api.Plan) *int { return &p.Chans[1].To }, math.MinInt, -1, 1, 2, math.MaxInt)
	field("size", func(p *api.Plan) *int { return &p.Chans[0].Size }, math.MinInt, -1, 0, 33, math.MaxInt)
	field("depth", func(p *api.Plan) *int { return &p.Chans[0].Depth }, math.MinInt, -1, 0, 9, math.MaxInt)
	field("depth of a sample", func(p *api.Plan) *int { return &p.Chans[1].Depth }, 0, 2, 9)
	return l
}

// TestMayNot: P5.1 and P5.2, all that a plan may lack; such a plan has no bytes.
func TestMayNot(t *testing.T) {
	for _, x := range bad() {
		p := whole()
		x.change(&p)
		if e := plan.Check(p); e != x.e {
			t.Errorf("%s: %v: %d", x.name, p, e)
		}
		if s, e := plan.Bytes(p); s != "" || e != x.e {
			t.Errorf("%s: %q %d", x.name, s, e)
		}
	}
	if e := plan.Check(api.Plan{}); e != api.ErrArg {
		t.Error(e)
	}
}

// TestFirst: P5.1, where there are several, the first one of the promise's order.
func TestFirst(t *testing.T) {
	late := func(p *api.Plan) { // of a channel, the last one of the order
		p.Chans[0].Kind = 0
	}
	state := func(p *api.Plan) { p.Wins[0][1].From = 11 }
	for n, x := range []struct {
		l []func(*api.Plan)
		e api.Errno
	}{
		{[]func(*api.Plan){late, state}, api.ErrState},
		{[]func(*api.Plan){state, func(p *api.Plan) { p.Frame = 0 }}, api.ErrArg},
		{[]func(*api.Plan){state, func(p *api.Plan) { p.Parts[1].Mem = 1 }}, api.ErrArg},
		{[]func(*api.Plan){state, func(p *api.Plan) { p.Parts[1].Act[2] = 0 }}, api.ErrArg},
		{[]func(*api.Plan){state, func(p *api.Plan) { p.Wins[0][0].Part = 2 }}, api.ErrArg},
		{[]func(*api.Plan){state, func(p *api.Plan) { p.Wins[0][2].Part = 2 }}, api.ErrState},
		{[]func(*api.Plan){state, func(p *api.Plan) { p.Wins[2][0].Part = 2 }}, api.ErrState},
		{[]func(*api.Plan){state, func(p *api.Plan) { p.Wins[0][1].Len = 2 }}, api.ErrArg},
		{[]func(*api.Plan){state, func(p *api.Plan) { p.Wins[0][1].Len = 290 }}, api.ErrArg},
		{[]func(*api.Plan){state, func(p *api.Plan) { p.Parts = nil }}, api.ErrArg},
		{[]func(*api.Plan){func(p *api.Plan) { p.Frame = 0 }, func(p *api.Plan) { p.Chans = make([]api.Chan, 7) }}, api.ErrBig},
		{[]func(*api.Plan){func(p *api.Plan) { p.Parts = nil }, func(p *api.Plan) { p.Wins[2] = make([]api.Win, 9) }}, api.ErrBig},
		{[]func(*api.Plan){func(p *api.Plan) { p.Parts = nil }, func(p *api.Plan) { p.Wins = make([][]api.Win, 4) }}, api.ErrBig},
		{[]func(*api.Plan){func(p *api.Plan) { p.Wins = nil }, func(p *api.Plan) { p.Parts = make([]api.Part, 5) }}, api.ErrBig},
	} {
		p := whole()
		for _, change := range x.l {
			change(&p)
		}
		if e := plan.Check(p); e != x.e {
			t.Errorf("%d: %d", n, e)
		}
	}
}

// TestBytes: P5.2 and P5.3, the bytes of a plan, one by one, and no others.
func TestBytes(t *testing.T) {
	if s, e := plan.Bytes(whole()); s != wholeBytes || e != api.OK {
		t.Errorf("%q %d", s, e)
	}
	if p, e := plan.Take(wholeBytes); !plan.Same(p, whole()) || e != api.OK {
		t.Errorf("%v %d", p, e)
	}
	for n := range len(wholeBytes) {
		want := api.ErrMore
		if n < 2 {
			want = api.ErrForm
		}
		if p, e := plan.Take(wholeBytes[:n]); !plan.Same(p, api.Plan{}) || e != want {
			t.Errorf("%d: %v %d", n, p, e)
		}
	}
	for _, more := range []string{"\x00", "TP", wholeBytes} {
		if p, e := plan.Take(wholeBytes + more); !plan.Same(p, api.Plan{}) || e != api.ErrForm {
			t.Errorf("%v %d", p, e)
		}
	}
}

// TestTakeRefuses: P5.2, in the order in which the bytes come.
func TestTakeRefuses(t *testing.T) {
	const part = "\x00\x40\x00\x01\x00\x01\x00\x01"
	const head = "TP\x00\x01" + part + "\x00\x0a"
	for n, x := range []struct {
		s string
		e api.Errno
	}{
		{"", api.ErrForm},
		{"T", api.ErrForm},
		{"tp", api.ErrForm},
		{"PT\x00\x01", api.ErrForm},
		{"\x00TP", api.ErrForm},
		{"TP", api.ErrMore},
		{"TP\x00", api.ErrMore},
		{"TP\x00\x05", api.ErrBig},
		{"TP\x01\x00", api.ErrBig},
		{"TP\xff\xff\x00", api.ErrBig},
		{"TP\x00\x04", api.ErrMore},
		{head + "\x00\x04", api.ErrBig},
		{head + "\x00\x03", api.ErrMore},
		{head + "\x00\x01\x00\x09", api.ErrBig},
		{head + "\x00\x01\x00\x08", api.ErrMore},
		{head + "\x00\x02\x00\x00\x00\x09", api.ErrBig},
		{head + "\x00\x01\x00\x00\x00\x07", api.ErrBig},
		{head + "\x00\x01\x00\x00\x00\x06", api.ErrMore},
		{head + "\x00\x01\x00\x00\x00\x00", api.OK},
		{head + "\x00\x01\x00\x00\x00\x00\x00", api.ErrForm},
		{head + "\x00\x00\x00\x00", api.ErrArg},
		{head + "\x00\x00\x00\x00\x00", api.ErrForm},
		{"TP\x00\x00\x00\x0a\x00\x01\x00\x00\x00\x00", api.ErrArg},
		{"TP\x00\x00\x00\x0a\x00\x01\x00\x00\x00\x00x", api.ErrForm},
		{"TP\x00\x01" + part + "\x00\x00\x00\x01\x00\x00\x00\x00", api.ErrArg},
		{"TP\x00\x01" + part + "\xff\xff\x00\x01\x00\x00\x00\x00", api.ErrArg},
		{head + "\x00\x01\x00\x02" + "\x00\x00\x00\x00\x00\x05" + "\x00\x00\x00\x04\x00\x05" + "\x00\x00", api.ErrState},
		{head + "\x00\x01\x00\x01" + "\x00\x00\x00\x00\x00\x02" + "\x00\x00", api.ErrArg},
		{head + "\x00\x01\x00\x01" + "\xff\xff\x00\x00\x00\x03" + "\x00\x00", api.ErrArg},
	} {
		p, e := plan.Take(x.s)
		if e != x.e || e != api.OK && !plan.Same(p, api.Plan{}) {
			t.Errorf("%d: %v %d", n, p, e)
		}
	}
	if _, e := plan.Take("TP" + strings.Repeat("\x00\x01", 5000)); e != api.ErrForm {
		t.Error(e)
	}
}

// TestTakeAny: P5.2 and P5.3, what is taken has the bytes that it was taken from, however they are changed.
func TestTakeAny(t *testing.T) {
	for at := range len(wholeBytes) {
		for _, v := range []byte{0, 1, 2, 3, 4, 5, 64, 255} {
			b := []byte(wholeBytes)
			b[at] = v
			p, e := plan.Take(string(b))
			if e != api.OK {
				continue
			}
			if s, e := plan.Bytes(p); s != string(b) || e != api.OK {
				t.Errorf("%d, %d: %q %d", at, v, s, e)
			}
		}
	}
}

// TestSame: P5.2, each field counts.
func TestSame(t *testing.T) {
	if !plan.Same(whole(), whole()) || !plan.Same(api.Plan{}, api.Plan{Parts: []api.Part{}, Wins: [][]api.Win{}, Chans: []api.Chan{}}) {
		t.Error("the same")
	}
	none := whole()
	none.Wins[1] = nil
	if !plan.Same(none, whole()) {
		t.Error("a list without elements")
	}
	for n, change := range []func(*api.Plan){
		func(p *api.Plan) { p.Parts[1].Mem++ },
		func(p *api.Plan) { p.Parts[0].Act[1]++ },
		func(p *api.Plan) { p.Parts = p.Parts[:1] },
		func(p *api.Plan) { p.Parts[0], p.Parts[1] = p.Parts[1], p.Parts[0] },
		func(p *api.Plan) { p.Frame++ },
		func(p *api.Plan) { p.Wins = p.Wins[:2] },
		func(p *api.Plan) { p.Wins = append(p.Wins, nil) },
		func(p *api.Plan) { p.Wins[0] = p.Wins[0][:2] },
		func(p *api.Plan) { p.Wins[1], p.Wins[2] = p.Wins[2], p.Wins[1] },
		func(p *api.Plan) { p.Wins[0][2].Part = 1 },
		func(p *api.Plan) { p.Wins[0][2].From-- },
		func(p *api.Plan) { p.Wins[2][0].Len-- },
		func(p *api.Plan) { p.Chans = p.Chans[:1] },
		func(p *api.Plan) { p.Chans[1].Kind = 2 },
		func(p *api.Plan) { p.Chans[1].From = 3 },
		func(p *api.Plan) { p.Chans[1].To = 3 },
		func(p *api.Plan) { p.Chans[1].Size-- },
		func(p *api.Plan) { p.Chans[0].Depth-- },
	} {
		p := whole()
		change(&p)
		if plan.Same(p, whole()) || plan.Same(whole(), p) {
			t.Errorf("%d: %v", n, p)
		}
	}
}

// TestExamples: the chapter's.
func TestExamples(t *testing.T) {
	if e := plan.Check(one()); e != api.OK {
		t.Error(e)
	}
	p := one()
	p.Wins[0] = []api.Win{{Part: 0, From: 0, Len: 6}, {Part: 0, From: 5, Len: 5}}
	if e := plan.Check(p); e != api.ErrState {
		t.Error(e)
	}
	p.Wins[0] = []api.Win{{Part: 0, From: 0, Len: 2}}
	if e := plan.Check(p); e != api.ErrArg {
		t.Error(e)
	}
}
