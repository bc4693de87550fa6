package asm_test

import (
	"math"
	"slices"
	"strconv"
	"strings"
	"testing"

	"transom/api"
	"transom/asm"
	"transom/isa"
)

// forms are the operations by their numbers: name and operands.
var forms = strings.Split("-|li A I|lui A I|mov A B|add A B|sub A B|mul A B|div A B|and A B|or A B|xor A B|shl A B|shr A B|addi A I|lw A B I|sw A B I|lb A B I|sb A B I|jmp I|jal A I|jr A|beq A B I|blt A B I|bltu A B I|sys", "|")

// line is what the chapter says of an instruction that may be.
func line(i api.Ins) string {
	s := strings.ReplaceAll(forms[i.Op], "A", "r"+strconv.Itoa(i.A))
	s = strings.ReplaceAll(s, "B", "r"+strconv.Itoa(i.B))
	return strings.ReplaceAll(s, "I", strconv.Itoa(i.Imm))
}

// each goes through instructions of all kinds, such that may be and others.
func each(do func(api.Ins)) {
	for op := -1; op < 27; op++ {
		for a := -1; a < 9; a++ {
			for b := -1; b < 9; b++ {
				for _, imm := range []int{math.MinInt, -32769, -32768, -100, -9, -1, 0, 1, 10, 99, 32767, 32768, math.MaxInt} {
					do(api.Ins{Op: op, A: a, B: b, Imm: imm})
				}
			}
		}
	}
}

// TestLine: P19.1 and P19.3, lines, and what is read from them.
func TestLine(t *testing.T) {
	each(func(i api.Ins) {
		s, e := asm.Line(i)
		if !isa.May(i) {
			if s != "" || e != api.ErrArg {
				t.Errorf("%v: %q %d", i, s, e)
			}
			return
		}
		if s != line(i) || e != api.OK {
			t.Errorf("%v: %q %d", i, s, e)
		}
		if back, e := asm.Parse(s); back != i || e != api.OK {
			t.Errorf("%q: %v %d", s, back, e)
		}
	})
}

// TestParseRefuses: P19.1, texts that are no line of an instruction that may be.
func TestParseRefuses(t *testing.T) {
	for _, s := range []string{
		"", " ", "-", "x", "li", "li ", "li r1", "li r1 ", "li r1  5", " li r1 5", "li r1 5 ", "li  r1 5", "li r1 5 6", "li r1 r2 5", "li 5", "li 5 r1", "li 1 5", "li r 5", "li r8 5", "li r-1 5", "li r01 5", "li rr1 5", "li R1 5", "LI r1 5", "Li r1 5",
		"li r1 05", "li r1 +5", "li r1 -0", "li r1 --5", "li r1 5.0", "li r1 0x5", "li r1 5a", "li r1 32768", "li r1 -32769", "li r1 99999", "li r1 100000", "li r1 99999999999999999999", "li r1 r5", "li\tr1 5", "li r1\t5", "li r1 5\n", "li r1 5\r", "\nli r1 5", "li r1,5", "li,r1 5",
		"mov r1", "mov r1 r2 0", "mov r1 r2 r3", "mov r1 2", "mov r1  r2", "add r1 r9", "add r10 r1", "addi r1 r2 5", "lw r1 8", "lw r1 r2", "lw r1 8 r2", "lw 8 r1 r2", "lw r1 8(r2)", "jmp", "jmp r1", "jmp r1 5", "jmp 5 5", "jal 5", "jal r1", "jal r1 r2 5", "jr", "jr 1", "jr r1 0", "jr r1 r2",
		"beq r1 r2", "beq r1 5", "sys 0", "sys r0", "sys ", " sys", "sys sys", "sy", "syss", "nop", "r1", "5", "0", "li r1 \x00", "li r1 \xff5", "ſys", "li r1 ٥",
	} {
		if i, e := asm.Parse(s); i != (api.Ins{}) || e != api.ErrForm {
			t.Errorf("%q: %v %d", s, i, e)
		}
	}
}

// TestParseOne: P19.3, whatever is read is printed just so: lines with a byte changed, taken out or put in.
func TestParseOne(t *testing.T) {
	for _, s := range []string{"li r1 -5", "lw r7 r1 -8", "jmp 100", "sys", "mov r0 r7", "bltu r2 r3 -32768", "jr r4"} {
		for at := range len(s) + 1 {
			for c := range 256 {
				for _, x := range []string{s[:at] + string([]byte{byte(c)}) + s[at:], s[:at] + string([]byte{byte(c)}) + s[min(at+1, len(s)):], s[:at] + s[min(at+1, len(s)):]} {
					i, e := asm.Parse(x)
					if e == api.ErrForm && i == (api.Ins{}) {
						continue
					}
					if back, f := asm.Line(i); e != api.OK || back != x || f != api.OK {
						t.Fatalf("%q: %v %d", x, i, e)
					}
				}
			}
		}
	}
}

// TestNumber: P19.1, the numbers from -99999 to 99999, and their texts alone.
func TestNumber(t *testing.T) {
	for n := -99999; n <= 99999; n++ {
		if got, ok := asm.Number(strconv.Itoa(n)); got != n || !ok {
			t.Fatalf("%d: %d %v", n, got, ok)
		}
	}
	for _, s := range []string{"", "-", "+", "-0", "+0", "00", "01", "-01", "+1", "--1", "- 1", " 1", "1 ", "1\n", "1_0", "0x1", "1e3", "1.0", "100000", "-100000", "99999999999999999999", "-99999999999999999999", "a", "1a", "٥", "\xff"} {
		if n, ok := asm.Number(s); n != 0 || ok {
			t.Errorf("%q: %d %v", s, n, ok)
		}
	}
}

var program = []api.Ins{{Op: api.OLi, A: 1, Imm: -5}, {Op: api.OSys}, {Op: api.OLw, A: 7, B: 1, Imm: 8}, {Op: api.OJmp, Imm: -3}}

const text = "li r1 -5\nsys\nlw r7 r1 8\njmp -3\n"

// TestPrint: P19.2 and P19.3, programs as text and back.
func TestPrint(t *testing.T) {
	if s, e := asm.Print(program); s != text || e != api.OK {
		t.Errorf("%q %d", s, e)
	}
	if l, n, e := asm.Read(text); !slices.Equal(l, program) || n != 4 || e != api.OK {
		t.Errorf("%v %d %d", l, n, e)
	}
	if s, e := asm.Print(nil); s != "" || e != api.OK {
		t.Errorf("%q %d", s, e)
	}
	if l, n, e := asm.Read(""); len(l) != 0 || n != 0 || e != api.OK {
		t.Errorf("%v %d %d", l, n, e)
	}
	for n := range program {
		bad := slices.Clone(program)
		bad[n].B = 9
		if s, e := asm.Print(bad); s != "" || e != api.ErrArg {
			t.Errorf("%d: %q %d", n, s, e)
		}
	}
	var all []api.Ins
	each(func(i api.Ins) {
		if isa.May(i) {
			all = append(all, i)
		}
	})
	s, _ := asm.Print(all)
	if l, n, e := asm.Read(s); !slices.Equal(l, all) || n != len(all) || e != api.OK {
		t.Error(len(l), n, e)
	}
}

// TestReadRefuses: P19.2, the first line that isn't one, and bytes behind the last newline.
func TestReadRefuses(t *testing.T) {
	for _, x := range []struct {
		s string
		n int
	}{
		{"\n", 0}, {"sys", 0}, {"x", 0}, {"x\n", 0}, {" \n", 0}, {"\nsys\n", 0},
		{"sys\nsys", 1}, {"sys\n\n", 1}, {"sys\nx\nsys\n", 1}, {"sys\nx\ny\n", 1}, {"sys\nsys\nx", 2}, {"sys\n ", 1},
		{text + "sys", 4}, {text + "\n", 4}, {text + "x\n" + text, 4}, {"sys\r\n", 0}, {text[:len(text)-1], 3}, {"x\nsys", 0},
	} {
		if l, n, e := asm.Read(x.s); len(l) != 0 || n != x.n || e != api.ErrForm {
			t.Errorf("%q: %v %d %d", x.s, l, n, e)
		}
	}
}

// TestExample: the chapter's.
func TestExample(t *testing.T) {
	if s, e := asm.Line(api.Ins{Op: api.OLw, A: 7, B: 1, Imm: -8}); s != "lw r7 r1 -8" || e != api.OK {
		t.Errorf("%q %d", s, e)
	}
}
