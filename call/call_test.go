package call_test

import (
	"math"
	"testing"

	"transom/api"
	"transom/call"
)

// errors are all that api tells.
var errors = []api.Errno{api.ErrArg, api.ErrMore, api.ErrForm, api.ErrBig, api.ErrFull, api.ErrAgain, api.ErrNone, api.ErrThere, api.ErrState, api.ErrFault, api.ErrOp, api.ErrChild, api.ErrPerm, api.ErrEnd}

var values = []uint32{0, 1, 2, 14, 15, 1 << 16, 1<<31 - 1, 1 << 31, math.MaxUint32 - 14, math.MaxUint32 - 13, math.MaxUint32 - 1, math.MaxUint32}

// TestFrom: P12.1, the registers 0 to 3, and no others.
func TestFrom(t *testing.T) {
	c := api.Cpu{R: [api.Regs]uint32{11, 12, 13, 14, 15, 16, 17, 18}, Pc: 19}
	if x := call.From(c); x != (api.Call{N: 11, A: 12, B: 13, C: 14}) {
		t.Error(x)
	}
	if x := call.From(api.Cpu{}); x != (api.Call{}) {
		t.Error(x)
	}
}

// TestKinds: P12.1, of all numbers which are calls, and which may have to wait, whatever is asked with.
func TestKinds(t *testing.T) {
	numbers := []uint32{1<<16 + 1, 1 << 31, 1<<31 + 4, math.MaxUint32 - 3, math.MaxUint32}
	for n := range uint32(300) {
		numbers = append(numbers, n)
	}
	for _, n := range numbers {
		for _, a := range values {
			x := api.Call{N: n, A: a, B: a, C: a}
			if call.Known(x) != (n >= 1 && n <= 20) {
				t.Errorf("%v: %v", x, call.Known(x))
			}
			if call.Blocks(x) != (n == 4 || n == 8 || n == 12 || n == 13) {
				t.Errorf("%v: %v", x, call.Blocks(x))
			}
		}
	}
}

// TestValue: P12.2, the value, or the error's.
func TestValue(t *testing.T) {
	for _, v := range values {
		if got := call.Value(api.OK, v); got != v {
			t.Errorf("%d: %d", v, got)
		}
		for n, e := range errors {
			if got := call.Value(e, v); got != uint32(math.MaxUint32-n) {
				t.Errorf("%d, %d: %d", e, v, got)
			}
		}
		for _, x := range []struct {
			e    api.Errno
			want uint32
		}{
			{15, math.MaxUint32 - 14}, {-1, 1}, {-7, 7}, {1 << 32, 0}, {1<<32 + 5, math.MaxUint32 - 4}, {math.MinInt, 0}, {math.MaxInt, 1}, {math.MinInt + 1, math.MaxUint32},
		} {
			if got := call.Value(x.e, v); got != x.want {
				t.Errorf("%d, %d: %d", x.e, v, got)
			}
		}
	}
}

// TestBack: P12.2, in the register 0, and nothing else changes.
func TestBack(t *testing.T) {
	c := api.Cpu{R: [api.Regs]uint32{11, 12, 13, 14, 15, 16, 17, 18}, Pc: 19}
	for _, v := range values {
		for _, e := range append(errors, api.OK) {
			want := c
			want.R[0] = v
			if e != api.OK {
				want.R[0] = uint32(1<<32 - int(e))
			}
			if got := call.Back(c, e, v); got != want {
				t.Errorf("%d, %d: %v", e, v, got)
			}
		}
	}
}

// TestFailed: P12.2 and P12.3, each error's value is told as it, and none else.
func TestFailed(t *testing.T) {
	for _, e := range errors {
		if got, ok := call.Failed(call.Value(e, 77)); got != e || !ok {
			t.Errorf("%d: %d %v", e, got, ok)
		}
	}
	for _, v := range []uint32{0, 1, 2, 14, 15, 1 << 31, 1<<31 - 1, math.MaxUint32 - 15, math.MaxUint32 - 14} {
		if got, ok := call.Failed(v); got != api.OK || ok {
			t.Errorf("%d: %d %v", v, got, ok)
		}
	}
	for n := range uint32(14) {
		if got, ok := call.Failed(math.MaxUint32 - n); got != api.Errno(n+1) || !ok {
			t.Errorf("%d: %d %v", n, got, ok)
		}
	}
}

// TestExample: the chapter's.
func TestExample(t *testing.T) {
	if v := call.Value(api.ErrArg, 0); v != math.MaxUint32 {
		t.Error(v)
	}
	if e, ok := call.Failed(math.MaxUint32); e != api.ErrArg || !ok {
		t.Error(e, ok)
	}
}
