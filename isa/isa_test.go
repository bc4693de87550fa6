package isa_test

import (
	"math"
	"slices"
	"strings"
	"testing"

	"transom/api"
	"transom/isa"
)

// used is the chapter's list, told anew: what of an instruction each operation uses.
func used(op int) (a, b, imm bool) {
	a, b = true, true
	switch op {
	case api.OJmp:
		a, b, imm = false, false, true
	case api.OSys:
		a, b = false, false
	case api.OJr:
		b = false
	case api.OLi, api.OLui, api.OAddi, api.OJal:
		b, imm = false, true
	case api.OLw, api.OSw, api.OLb, api.OSb, api.OBeq, api.OBlt, api.OBltu:
		imm = true
	}
	return a, b, imm
}

// may is the chapter's sentence.
func may(i api.Ins) bool {
	if i.Op < 1 || i.Op > 24 {
		return false
	}
	a, b, imm := used(i.Op)
	fits := func(uses bool, n, low, high int) bool {
		if !uses {
			return n == 0
		}
		return low <= n && n <= high
	}
	return fits(a, i.A, 0, 7) && fits(b, i.B, 0, 7) && fits(imm, i.Imm, -32768, 32767)
}

var fields = []int{math.MinInt, -1 << 32, -9, -8, -1, 0, 1, 2, 6, 7, 8, 15, 16, 1 << 16, 1 << 32, math.MaxInt}

var imms = []int{math.MinInt, -1 << 32, -1 << 16, -32769, -32768, -32767, -1, 0, 1, 255, 256, 32766, 32767, 32768, 65535, 65536, 1 << 32, math.MaxInt}

// each goes through instructions of all kinds, such that may be and others.
func each(do func(api.Ins)) {
	ops := []int{math.MinInt, -24, -1, 25, 26, 256, 1 << 32, math.MaxInt}
	for op := range 25 {
		ops = append(ops, op)
	}
	for _, op := range ops {
		for _, a := range fields {
			for _, b := range fields {
				for _, imm := range imms {
					do(api.Ins{Op: op, A: a, B: b, Imm: imm})
				}
			}
		}
	}
}

// TestMay: P1.1, which instructions may be.
func TestMay(t *testing.T) {
	each(func(i api.Ins) {
		if isa.May(i) != may(i) {
			t.Errorf("%v: %v", i, isa.May(i))
		}
	})
}

// TestWord: P1.1 and P1.3, words, and what is taken from them; no two instructions have one word.
func TestWord(t *testing.T) {
	seen := map[uint32]api.Ins{}
	each(func(i api.Ins) {
		w, e := isa.Word(i)
		if !may(i) {
			if w != 0 || e != api.ErrArg {
				t.Errorf("%v: %x %d", i, w, e)
			}
			return
		}
		want := uint32(i.Op*(1<<24)+i.A*(1<<20)+i.B*(1<<16)) + uint32((i.Imm+65536)%65536)
		if w != want || e != api.OK {
			t.Errorf("%v: %x %d, not %x", i, w, e, want)
		}
		if back, e := isa.Take(w); back != i || e != api.OK {
			t.Errorf("%x: %v %d, not %v", w, back, e, i)
		}
		if other, ok := seen[w]; ok && other != i {
			t.Errorf("%v and %v: %x", i, other, w)
		}
		seen[w] = i
	})
}

// TestExamples: words as the chapter tells them, figure by figure.
func TestExamples(t *testing.T) {
	for _, x := range []struct {
		i api.Ins
		w uint32
	}{
		{api.Ins{Op: api.OLi, A: 1, Imm: -1}, 0x0110ffff},
		{api.Ins{Op: api.OLui, A: 2, Imm: -32768}, 0x02208000},
		{api.Ins{Op: api.OMov, A: 7, B: 6}, 0x03760000},
		{api.Ins{Op: api.OAddi, A: 4, Imm: 32767}, 0x0d407fff},
		{api.Ins{Op: api.OJmp, Imm: -2}, 0x1200fffe},
		{api.Ins{Op: api.OJal, A: 5, Imm: 3}, 0x13500003},
		{api.Ins{Op: api.OJr, A: 3}, 0x14300000},
		{api.Ins{Op: api.OBltu, A: 1, B: 2, Imm: 258}, 0x17120102},
		{api.Ins{Op: api.OSys}, 0x18000000},
	} {
		if w, e := isa.Word(x.i); w != x.w || e != api.OK {
			t.Errorf("%v: %x %d", x.i, w, e)
		}
	}
}

// TestTake: P1.1, a word of no instruction is refused, and one that isn't refused is that instruction's.
func TestTake(t *testing.T) {
	for _, w := range []uint32{0, 0xffff, 0x00100000, 0x01080000, 0x01010000, 0x01800000, 0x03110001, 0x03090000, 0x0d010000, 0x12010000, 0x12100000, 0x14010000, 0x14000001, 0x18000001, 0x18100000, 0x18010000, 0x19000000, 0x81000000, 0xff000000, 0xffffffff} {
		if i, e := isa.Take(w); i != (api.Ins{}) || e != api.ErrOp {
			t.Errorf("%x: %v %d", w, i, e)
		}
	}
	w := uint32(1)
	for range 200000 {
		w = w*1664525 + 1013904223
		x := w ^ w>>15&0x1f0fffff
		i, e := isa.Take(x)
		if e == api.OK {
			if back, e := isa.Word(i); back != x || e != api.OK {
				t.Fatalf("%x: %v, %x", x, i, back)
			}
		} else if i != (api.Ins{}) || e != api.ErrOp {
			t.Fatalf("%x: %v %d", x, i, e)
		}
	}
}

// TestTakeAll: P1.1, of each operation, all fields of a word: taken, just if the instruction may be.
func TestTakeAll(t *testing.T) {
	for op := range 256 {
		for ab := range 256 {
			for _, imm := range []int{-32768, -1, 0, 1, 32767} {
				i := api.Ins{Op: op, A: ab / 16, B: ab % 16, Imm: imm}
				w := uint32(op)<<24 | uint32(ab)<<16 | uint32(uint16(imm))
				got, e := isa.Take(w)
				if may(i) && (got != i || e != api.OK) || !may(i) && (got != (api.Ins{}) || e != api.ErrOp) {
					t.Fatalf("%x: %v %d", w, got, e)
				}
			}
		}
	}
}

// TestBytes: P1.2, programs as bytes and back.
func TestBytes(t *testing.T) {
	l := []api.Ins{{Op: api.OLi, A: 1, Imm: -1}, {Op: api.OLw, A: 7, B: 1, Imm: 258}, {Op: api.OSys}}
	const want = "\xff\xff\x10\x01\x02\x01\x71\x0e\x00\x00\x00\x18"
	s, e := isa.Bytes(l)
	if s != want || e != api.OK {
		t.Errorf("%q %d", s, e)
	}
	if back, e := isa.Back(want); !slices.Equal(back, l) || e != api.OK {
		t.Errorf("%v %d", back, e)
	}
	if s, e := isa.Bytes(nil); s != "" || e != api.OK {
		t.Errorf("%q %d", s, e)
	}
	if l, e := isa.Back(""); len(l) != 0 || e != api.OK {
		t.Errorf("%v %d", l, e)
	}
	for n := range l {
		bad := slices.Clone(l)
		bad[n].B = 9
		if s, e := isa.Bytes(bad); s != "" || e != api.ErrArg {
			t.Errorf("%d: %q %d", n, s, e)
		}
	}
}

// TestBackRefuses: P1.2, bytes that are missing come first, then words of no instruction.
func TestBackRefuses(t *testing.T) {
	const sys = "\x00\x00\x00\x18"
	for _, x := range []struct {
		s string
		e api.Errno
	}{
		{"\x00", api.ErrMore},
		{"abcde", api.ErrMore},
		{sys[:3], api.ErrMore},
		{sys + sys[:1], api.ErrMore},
		{"abcd" + sys[:2], api.ErrMore},
		{"abcd", api.ErrOp},
		{"\x18\x00\x00\x00", api.ErrOp},
		{sys + "\x00\x00\x00\x00", api.ErrOp},
		{"\x00\x00\x00\x00" + sys, api.ErrOp},
		{sys + "\x01\x00\x00\x18" + sys, api.ErrOp},
	} {
		if l, e := isa.Back(x.s); len(l) != 0 || e != x.e {
			t.Errorf("%q: %v %d", x.s, l, e)
		}
	}
	if l, e := isa.Back(strings.Repeat(sys, 1000)); len(l) != 1000 || e != api.OK {
		t.Errorf("%d %d", len(l), e)
	}
}
