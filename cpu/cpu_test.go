package cpu_test

import (
	"math"
	"testing"

	"transom/api"
	"transom/cpu"
	"transom/isa"
	"transom/seg"
)

const (
	most = math.MaxUint32
	high = 1 << 31
)

// image is the memory of a program.
func image(t *testing.T, l ...api.Ins) string {
	t.Helper()
	s, e := isa.Bytes(l)
	if e != api.OK {
		t.Fatal(l, e)
	}
	return s
}

// regs is a processor of some registers.
func regs(pc uint32, r ...uint32) api.Cpu {
	c := api.Cpu{Pc: pc}
	copy(c.R[:], r)
	return c
}

var values = []uint32{0, 1, 2, 3, 7, 31, 32, 33, 63, 64, 100, 255, 256, 65535, 65536, 1 << 30, high - 1, high, high + 1, most - 32, most - 1, most}

// signed is a register's number with its sign.
func signed(v uint32) int64 {
	if v >= high {
		return int64(v) - 1<<32
	}
	return int64(v)
}

// round is a number modulo 2^32.
func round(n int64) uint32 { return uint32(((n % (1 << 32)) + 1<<32) % (1 << 32)) }

// bits puts two numbers together, bit by bit.
func bits(a, b uint32, f func(x, y uint32) bool) uint32 {
	r := uint32(0)
	for n := range 32 {
		p := uint32(1) << n
		if f(a/p%2, b/p%2) {
			r += p
		}
	}
	return r
}

// moved is a number times, or divided by, a power of two.
func moved(a, b uint32, up bool) uint32 {
	for range b % 32 {
		if up {
			a = round(int64(a) * 2)
		} else {
			a /= 2
		}
	}
	return a
}

// reckoned is what the chapter says of two registers.
func reckoned(op int, a, b uint32) uint32 {
	x, y := int64(a), int64(b)
	switch op {
	case api.OMov:
		return b
	case api.OAdd:
		return round(x + y)
	case api.OSub:
		return round(x - y)
	case api.OMul:
		return uint32(uint64(a) * uint64(b) % (1 << 32))
	case api.ODiv:
		if b == 0 {
			return most
		}
		return uint32(x / y)
	case api.OAnd:
		return bits(a, b, func(x, y uint32) bool { return x+y == 2 })
	case api.OOr:
		return bits(a, b, func(x, y uint32) bool { return x+y > 0 })
	case api.OXor:
		return bits(a, b, func(x, y uint32) bool { return x+y == 1 })
	case api.OShl:
		return moved(a, b, true)
	case api.OShr:
		return moved(a, b, false)
	}
	panic(op)
}

// TestTwoRegisters: P3.1, the operations of two registers, for all pairs of values.
func TestTwoRegisters(t *testing.T) {
	for op := api.OMov; op <= api.OShr; op++ {
		for _, a := range values {
			for _, b := range values {
				c := regs(12, 90, 91, 92, 93, 94, 95, 96, 97)
				c.R[2], c.R[5] = a, b
				want := c
				want.R[2] = reckoned(op, a, b)
				want.Pc = 16
				if got, ok := cpu.Does(c, api.Ins{Op: op, A: 2, B: 5}); got != want || !ok {
					t.Errorf("%d of %d, %d: %v %v, not %v", op, a, b, got, ok, want)
				}
			}
			c := regs(most-3, 0, 0, 0, a)
			want := c
			want.R[3] = reckoned(op, a, a)
			want.Pc = 0
			if got, ok := cpu.Does(c, api.Ins{Op: op, A: 3, B: 3}); got != want || !ok {
				t.Errorf("%d of %d and itself: %v %v, not %v", op, a, got, ok, want)
			}
		}
	}
}

// TestImm: P3.1, the operations of a register and a number.
func TestImm(t *testing.T) {
	for _, imm := range []int{-32768, -32767, -6, -1, 0, 1, 5, 32766, 32767} {
		for _, a := range values {
			for op, v := range map[int]uint32{
				api.OLi:   round(int64(imm)),
				api.OLui:  round(int64(imm) * 65536),
				api.OAddi: round(int64(a) + int64(imm)),
			} {
				for n := range 8 {
					c := regs(8, 1, 2, 3, 4, 5, 6, 7, 8)
					c.R[n] = a
					want := c
					want.R[n], want.Pc = v, 12
					if got, ok := cpu.Does(c, api.Ins{Op: op, A: n, Imm: imm}); got != want || !ok {
						t.Errorf("%d %d of %d: %v %v, not %v", op, imm, a, got, ok, want)
					}
				}
			}
		}
	}
}

// TestJumps: P3.1, where it goes on.
func TestJumps(t *testing.T) {
	for _, pc := range []uint32{0, 4, 6, 100, most, most - 3} {
		for _, imm := range []int{-32768, -2, -1, 0, 1, 2, 32767} {
			far, behind := round(int64(pc)+4*int64(imm)), round(int64(pc)+4)
			c := regs(pc, 7, 8, 9)
			want := c
			want.Pc = far
			if got, ok := cpu.Does(c, api.Ins{Op: api.OJmp, Imm: imm}); got != want || !ok {
				t.Errorf("jmp %d at %d: %v %v", imm, pc, got, ok)
			}
			want.R[1] = behind
			if got, ok := cpu.Does(c, api.Ins{Op: api.OJal, A: 1, Imm: imm}); got != want || !ok {
				t.Errorf("jal %d at %d: %v %v", imm, pc, got, ok)
			}
			for _, a := range values {
				for _, b := range values {
					for op, goes := range map[int]bool{api.OBeq: a == b, api.OBlt: signed(a) < signed(b), api.OBltu: a < b} {
						c := regs(pc, 0, a, b)
						want := c
						want.Pc = behind
						if goes {
							want.Pc = far
						}
						if got, ok := cpu.Does(c, api.Ins{Op: op, A: 1, B: 2, Imm: imm}); got != want || !ok {
							t.Errorf("%d of %d, %d: %v %v", op, a, b, got, ok)
						}
					}
				}
			}
		}
	}
	for _, a := range values {
		want := regs(a, 0, 0, 0, 0, 0, 0, 0, a)
		if got, ok := cpu.Does(regs(4, 0, 0, 0, 0, 0, 0, 0, a), api.Ins{Op: api.OJr, A: 7}); got != want || !ok {
			t.Errorf("jr %d: %v %v", a, got, ok)
		}
	}
}

// TestDoesNot: P3.1, what needs a memory, and what is no instruction.
func TestDoesNot(t *testing.T) {
	c := regs(8, 1, 2, 3)
	for _, i := range []api.Ins{
		{Op: api.OLw, A: 1, B: 2}, {Op: api.OSw, A: 1, B: 2}, {Op: api.OLb, A: 1, B: 2}, {Op: api.OSb, A: 1, B: 2}, {Op: api.OSys},
		{}, {Op: -1}, {Op: 25}, {Op: math.MaxInt}, {Op: math.MinInt},
		{Op: api.OLi, A: 8}, {Op: api.OLi, A: -1}, {Op: api.OLi, A: 1, B: 1}, {Op: api.OLi, Imm: 32768}, {Op: api.OLi, Imm: -32769},
		{Op: api.OAdd, A: 1, B: 8}, {Op: api.OAdd, A: 1, B: -1}, {Op: api.OAdd, A: 1, B: 2, Imm: 1}, {Op: api.OJmp, A: 1}, {Op: api.OJmp, B: 1}, {Op: api.OJal, B: 1}, {Op: api.OJr, B: 1}, {Op: api.OJr, Imm: 1}, {Op: api.OBeq, A: 9},
		{Op: api.OAddi, A: 1, B: 1}, {Op: api.OLi, A: math.MaxInt, B: math.MinInt},
	} {
		if got, ok := cpu.Does(c, i); got != c || ok {
			t.Errorf("%v: %v %v", i, got, ok)
		}
	}
}

// TestStepRefused: P3.2 and P3.4, no word at Pc, no instruction there, no place to load from or to store at: nothing changes.
func TestStepRefused(t *testing.T) {
	two := func(i api.Ins) string { return image(t, i, api.Ins{Op: api.OSys}) }
	for _, x := range []struct {
		c    api.Cpu
		m    string
		told int
	}{
		{regs(0), "", api.TFault},
		{regs(0), "abc", api.TFault},
		{regs(4), image(t, api.Ins{Op: api.OSys}), api.TFault},
		{regs(2), two(api.Ins{Op: api.OSys}), api.TFault},
		{regs(1), "abcd\x00\x00\x00\x18", api.TFault},
		{regs(most), two(api.Ins{Op: api.OSys}), api.TFault},
		{regs(most - 3), two(api.Ins{Op: api.OSys}), api.TFault},
		{regs(0), "\x00\x00\x00\x00", api.TOp},
		{regs(4), "\x00\x00\x00\x18\x01\x00\x00\x18", api.TOp},
		{regs(0), "\x00\x00\x80\x01", api.TOp},
		{regs(0, 5, 8), two(api.Ins{Op: api.OLw, A: 0, B: 1}), api.TFault},
		{regs(0, 5, 2), two(api.Ins{Op: api.OLw, A: 0, B: 1}), api.TFault},
		{regs(0, 5, 0), two(api.Ins{Op: api.OLw, A: 0, B: 1, Imm: -4}), api.TFault},
		{regs(0, 5, 4), two(api.Ins{Op: api.OLw, A: 0, B: 1, Imm: 4}), api.TFault},
		{regs(0, 5, 8), two(api.Ins{Op: api.OLb, A: 0, B: 1}), api.TFault},
		{regs(0, 5, 0), two(api.Ins{Op: api.OLb, A: 0, B: 1, Imm: -1}), api.TFault},
		{regs(0, 5, 8), two(api.Ins{Op: api.OSw, A: 0, B: 1}), api.TFault},
		{regs(0, 5, 3), two(api.Ins{Op: api.OSw, A: 0, B: 1}), api.TFault},
		{regs(0, 5, most), two(api.Ins{Op: api.OSb, A: 0, B: 1}), api.TFault},
		{regs(0, 5, 7), two(api.Ins{Op: api.OSb, A: 0, B: 1, Imm: 1}), api.TFault},
	} {
		if c, m, told := cpu.Step(x.c, x.m); c != x.c || m != x.m || told != x.told {
			t.Errorf("%v %q: %v %q %d", x.c, x.m, c, m, told)
		}
		if c, m, told, n := cpu.Run(x.c, x.m, 5); c != x.c || m != x.m || told != x.told || n != 0 {
			t.Errorf("%v %q: %v %q %d %d", x.c, x.m, c, m, told, n)
		}
	}
}

// TestStepMemory: P3.2, what loads and stores.
func TestStepMemory(t *testing.T) {
	for _, x := range []struct {
		i    api.Ins
		b    uint32
		a    uint32
		data string
	}{
		{api.Ins{Op: api.OLw, A: 1, B: 2}, 4, 0xf3f2f1f0, "\xf0\xf1\xf2\xf3wxyz"},
		{api.Ins{Op: api.OLw, A: 1, B: 2, Imm: 4}, 4, 0x7a797877, "\xf0\xf1\xf2\xf3wxyz"},
		{api.Ins{Op: api.OLw, A: 1, B: 2, Imm: -4}, 12, 0x7a797877, "\xf0\xf1\xf2\xf3wxyz"},
		{api.Ins{Op: api.OLw, A: 1, B: 2, Imm: 8}, most - 3, 0xf3f2f1f0, "\xf0\xf1\xf2\xf3wxyz"},
		{api.Ins{Op: api.OLb, A: 1, B: 2}, 7, 0xf3, "\xf0\xf1\xf2\xf3wxyz"},
		{api.Ins{Op: api.OLb, A: 1, B: 2, Imm: -32768}, 32768 + 11, 0x7a, "\xf0\xf1\xf2\xf3wxyz"},
		{api.Ins{Op: api.OSw, A: 1, B: 2}, 4, 0x01020304, "\x04\x03\x02\x01wxyz"},
		{api.Ins{Op: api.OSw, A: 1, B: 2, Imm: 5}, 3, 0x01020304, "\xf0\xf1\xf2\xf3\x04\x03\x02\x01"},
		{api.Ins{Op: api.OSb, A: 1, B: 2}, 6, 0x01020304, "\xf0\xf1\x04\xf3wxyz"},
		{api.Ins{Op: api.OSb, A: 1, B: 2, Imm: 1}, 10, 0xffffff55, "\xf0\xf1\xf2\xf3wxy\x55"},
	} {
		before := image(t, x.i) + "\xf0\xf1\xf2\xf3wxyz"
		c := regs(0, 9, 77, x.b)
		want := c
		want.Pc = 4
		if x.i.Op == api.OLw || x.i.Op == api.OLb {
			want.R[1] = x.a
		} else {
			c.R[1], want.R[1] = x.a, x.a
		}
		got, m, told := cpu.Step(c, before)
		if got != want || m != before[:4]+x.data || told != api.TNone {
			t.Errorf("%v: %v %q %d", x.i, got, m, told)
		}
	}
}

// TestStepOthers: P3.2, a system call, and what Does does.
func TestStepOthers(t *testing.T) {
	m := image(t, api.Ins{Op: api.OSys}, api.Ins{Op: api.OAddi, A: 1, Imm: -6}, api.Ins{Op: api.OJmp, Imm: -2})
	c := regs(0, 1, 5)
	want := c
	want.Pc = 4
	if got, n, told := cpu.Step(c, m); got != want || n != m || told != api.TSys {
		t.Errorf("%v %q %d", got, n, told)
	}
	c.Pc = 4
	want.Pc, want.R[1] = 8, most
	if got, n, told := cpu.Step(c, m); got != want || n != m || told != api.TNone {
		t.Errorf("%v %q %d", got, n, told)
	}
	c.Pc = 8
	want = c
	want.Pc = 0
	if got, n, told := cpu.Step(c, m); got != want || n != m || told != api.TNone {
		t.Errorf("%v %q %d", got, n, told)
	}
}

// sum is a program that adds 1 to 5 up, stores the sum, writes over what follows, and calls.
func sum(t *testing.T) string {
	return image(t,
		api.Ins{Op: api.OLi, A: 1, Imm: 5},
		api.Ins{Op: api.OLi, A: 3, Imm: 1},
		api.Ins{Op: api.OAdd, A: 2, B: 1},
		api.Ins{Op: api.OSub, A: 1, B: 3},
		api.Ins{Op: api.OBlt, A: 0, B: 1, Imm: -2},
		api.Ins{Op: api.OSw, A: 2, B: 0, Imm: 32},
		api.Ins{Op: api.OSys},
		api.Ins{Op: api.OSys}) + "----"
}

// TestRun: P3.3, a run of all lengths is as many steps.
func TestRun(t *testing.T) {
	m := sum(t)
	c, told := regs(0), api.TNone
	for n := range 30 {
		if n > 0 && told == api.TNone {
			c, m, told = cpu.Step(c, m)
		}
		got, s, last, plain := cpu.Run(regs(0), sum(t), n)
		if got != c || s != m || last != told || plain != min(n, 18) {
			t.Errorf("%d: %v %q %d %d, not %v %q %d", n, got, s, last, plain, c, m, told)
		}
	}
	if told != api.TSys || c.R[2] != 15 || c.Pc != 28 {
		t.Error(told, c)
	}
	if v, e := seg.Load(m, 32); v != 15 || e != api.OK {
		t.Error(v, e)
	}
	for _, n := range []int{0, -1, math.MinInt} {
		if got, s, last, plain := cpu.Run(c, m, n); got != c || s != m || last != api.TNone || plain != 0 {
			t.Errorf("%d: %v %q %d %d", n, got, s, last, plain)
		}
	}
}

// TestRunsJoin: P3.4, a run of so many steps and one of so many more are one of both.
func TestRunsJoin(t *testing.T) {
	for a := range 20 {
		for b := range 20 {
			c, m, told, n := cpu.Run(regs(0), sum(t), a)
			if told != api.TNone {
				continue
			}
			c, m, told, k := cpu.Run(c, m, b)
			want, s, last, all := cpu.Run(regs(0), sum(t), a+b)
			if c != want || m != s || told != last || n+k != all {
				t.Errorf("%d and %d: %v %q %d %d", a, b, c, m, told, n+k)
			}
		}
	}
}

// TestRunLong: a program that never ends, for as many steps as are asked for.
func TestRunLong(t *testing.T) {
	m := image(t, api.Ins{Op: api.OAddi, A: 1, Imm: 1}, api.Ins{Op: api.OJmp, Imm: -1})
	if c, s, told, n := cpu.Run(regs(0), m, 100001); c != regs(4, 0, 50001) || s != m || told != api.TNone || n != 100001 {
		t.Error(c, told, n)
	}
}

// TestOwnCode: what is stored over an instruction is done in its place.
func TestOwnCode(t *testing.T) {
	w, _ := isa.Word(api.Ins{Op: api.OLi, A: 1, Imm: 42})
	m := image(t, api.Ins{Op: api.OSw, A: 2, B: 0, Imm: 4}, api.Ins{Op: api.OSys})
	c, _, told, n := cpu.Run(regs(0, 0, 0, w), m, 2)
	if c.R[1] != 42 || told != api.TNone || n != 2 {
		t.Error(c, told, n)
	}
}

// TestExample: the chapter's.
func TestExample(t *testing.T) {
	c, _, told, n := cpu.Run(api.Cpu{}, image(t, api.Ins{Op: api.OLi, A: 1, Imm: 5}, api.Ins{Op: api.OAddi, A: 1, Imm: -6}), 2)
	if c.R[1] != most || told != api.TNone || n != 2 {
		t.Error(c, told, n)
	}
}
