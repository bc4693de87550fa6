package load_test

import (
	"slices"
	"strings"
	"testing"

	"transom/api"
	"transom/hyper"
	"transom/load"
	"transom/plan"
)

func same(a, b [][]string) bool {
	return slices.EqualFunc(a, b, func(x, y []string) bool { return slices.Equal(x, y) })
}

var full = strings.Repeat("f", 64)

// may are images that may be packed, with their bytes.
var may = []struct {
	l [][]string
	s string
}{
	{nil, "\x00"},
	{[][]string{nil}, "\x01\x00"},
	{[][]string{{""}}, "\x01\x01\x00"},
	{[][]string{{"ab"}}, "\x01\x01\x02ab"},
	{[][]string{{"ab", "", "c"}, nil, {"\x00\xff"}}, "\x03\x03\x02ab\x00\x01c\x00\x01\x02\x00\xff"},
	{[][]string{{full}, {}, {}, {}}, "\x04\x01\x40" + full + "\x00\x00\x00"},
	{[][]string{slices.Repeat([]string{"x"}, 8)}, "\x01\x08" + strings.Repeat("\x01x", 8)},
	{slices.Repeat([][]string{slices.Repeat([]string{full}, 8)}, 4), "\x04" + strings.Repeat("\x08"+strings.Repeat("\x40"+full, 8), 4)},
}

// TestPack: P20.1 and P20.3, images as bytes and back; no beginning of them, nor one byte more.
func TestPack(t *testing.T) {
	for n, x := range may {
		if s, e := load.Pack(x.l); s != x.s || e != api.OK {
			t.Errorf("%d: %q %d", n, s, e)
		}
		if l, e := load.Unpack(x.s); !same(l, x.l) || e != api.OK {
			t.Errorf("%d: %v %d", n, l, e)
		}
		for k := range len(x.s) {
			if l, e := load.Unpack(x.s[:k]); len(l) != 0 || e != api.ErrMore {
				t.Errorf("%d, %d: %v %d", n, k, l, e)
			}
		}
		for _, more := range []string{"\x00", "\x01", "\xff", x.s} {
			if l, e := load.Unpack(x.s + more); len(l) != 0 || e != api.ErrForm {
				t.Errorf("%d: %v %d", n, l, e)
			}
		}
	}
}

// TestPackRefuses: P20.1, what is too much.
func TestPackRefuses(t *testing.T) {
	for n, l := range [][][]string{
		make([][]string, 5),
		make([][]string, 256),
		make([][]string, 300),
		{slices.Repeat([]string{""}, 9)},
		{nil, nil, nil, slices.Repeat([]string{""}, 9)},
		{slices.Repeat([]string{""}, 256)},
		{{full + "f"}},
		{{"a"}, {"b", full + "f"}},
		{{strings.Repeat("f", 256)}},
	} {
		if s, e := load.Pack(l); s != "" || e != api.ErrBig {
			t.Errorf("%d: %q %d", n, s, e)
		}
	}
}

// TestUnpackRefuses: P20.1, in the order in which the bytes come.
func TestUnpackRefuses(t *testing.T) {
	for n, x := range []struct {
		s string
		e api.Errno
	}{
		{"", api.ErrMore},
		{"\x05", api.ErrBig},
		{"\xff", api.ErrBig},
		{"\x05abc", api.ErrBig},
		{"\x04", api.ErrMore},
		{"\x01\x09", api.ErrBig},
		{"\x01\xff", api.ErrBig},
		{"\x01\x08", api.ErrMore},
		{"\x02\x00\x09", api.ErrBig},
		{"\x01\x01\x41", api.ErrBig},
		{"\x01\x01\x41" + full + "f", api.ErrBig},
		{"\x01\x01\xff", api.ErrBig},
		{"\x01\x01\x40", api.ErrMore},
		{"\x01\x01\x40" + full[:63], api.ErrMore},
		{"\x01\x01\x40" + full, api.OK},
		{"\x01\x02\x01a\x41", api.ErrBig},
		{"\x01\x02\x01a", api.ErrMore},
		{"\x01\x02\x02a", api.ErrMore},
		{"\x00\x00", api.ErrForm},
		{"\x00\x05", api.ErrForm},
		{"\x01\x00a", api.ErrForm},
		{"\x01\x01\x01ab", api.ErrForm},
	} {
		l, e := load.Unpack(x.s)
		if e != x.e || e != api.OK && len(l) != 0 {
			t.Errorf("%d: %v %d", n, l, e)
		}
	}
}

// TestUnpackAny: P20.3, what is unpacked is packed just so.
func TestUnpackAny(t *testing.T) {
	seed := uint32(9)
	taken := 0
	for range 200000 {
		var b []byte
		for range 1 + seed>>8%9 {
			seed = seed*1664525 + 1013904223
			b = append(b, byte(seed>>24%4))
		}
		l, e := load.Unpack(string(b))
		if e != api.OK {
			continue
		}
		taken++
		if s, e := load.Pack(l); s != string(b) || e != api.OK {
			t.Fatalf("%q: %v %q", b, l, s)
		}
	}
	if taken < 100 {
		t.Error(taken)
	}
}

// TestSame: P20.1.
func TestSame(t *testing.T) {
	base := [][]string{{"a", "b"}, {}, {"c"}}
	if !load.Same(base, [][]string{{"a", "b"}, nil, {"c"}}) || !load.Same(nil, [][]string{}) {
		t.Error("the same")
	}
	for n, l := range [][][]string{nil, base[:2], {{"a", "b"}, {"c"}}, {{"a"}, {}, {"c"}}, {{"b", "a"}, {}, {"c"}}, {{"a", "b"}, {""}, {"c"}}, {{"a", "b"}, {}, {"d"}}, {{"a", "b"}, {}, {"c"}, {}}, {{"a", "b", "c"}, {}, {}}} {
		if load.Same(base, l) || load.Same(l, base) {
			t.Error(n)
		}
	}
}

func planned() api.Plan {
	return api.Plan{
		Parts: []api.Part{{Mem: 64, Act: [3]int{1, 1, 1}}, {Mem: 128, Act: [3]int{2, 2, 2}}},
		Frame: 20,
		Wins:  [][]api.Win{{{Part: 0, From: 0, Len: 10}, {Part: 1, From: 10, Len: 10}}},
		Chans: []api.Chan{{Kind: api.CQueue, From: 0, To: 1, Size: 4, Depth: 2}},
	}
}

// TestMachine: P20.2, a machine out of bytes begins as chapter 16's does.
func TestMachine(t *testing.T) {
	p, e := plan.Bytes(planned())
	if e != api.OK {
		t.Fatal(e)
	}
	for _, l := range [][][]string{{{"a", "b"}, {"c"}}, {{}, {}}} {
		images, _ := load.Pack(l)
		want, _ := hyper.Begin(planned(), l)
		s, e := load.Machine(p, images)
		if !hyper.Same(s, want) || e != api.OK || len(s.Seats) != 2 {
			t.Error(s, e)
		}
	}
}

// TestMachineRefuses: P20.2, the plan's errors, then the images', then how many there are.
func TestMachineRefuses(t *testing.T) {
	p, _ := plan.Bytes(planned())
	wrong := strings.Replace(p, "\x00\x14", "\x00\x13", 1) // a frame that is too short
	for n, x := range []struct {
		plan, images string
		e            api.Errno
	}{
		{"", "\x02\x00\x00", api.ErrForm},
		{p[:9], "\x02\x00\x00", api.ErrMore},
		{p + "\x00", "", api.ErrForm},
		{"TP\x00\x05", "", api.ErrBig},
		{wrong, "", api.ErrArg},
		{wrong, "\xff", api.ErrArg},
		{p, "", api.ErrMore},
		{p, "\x05", api.ErrBig},
		{p, "\x02\x00", api.ErrMore},
		{p, "\x02\x00\x00\x00", api.ErrForm},
		{p, "\x01\x00\x00", api.ErrForm},
		{p, "\x00", api.ErrArg},
		{p, "\x01\x00", api.ErrArg},
		{p, "\x03\x00\x00\x00", api.ErrArg},
		{p, "\x02\x00\x00", api.OK},
	} {
		s, e := load.Machine(x.plan, x.images)
		if e != x.e || e != api.OK && !hyper.Same(s, api.System{}) {
			t.Errorf("%d: %v %d", n, s, e)
		}
	}
}

// TestExample: the chapter's.
func TestExample(t *testing.T) {
	if s, e := load.Pack([][]string{{"ab"}}); s != "\x01\x01\x02ab" || e != api.OK {
		t.Errorf("%q %d", s, e)
	}
}
