// Package isa is layer 1: instructions as words of 32 bits, and programs as bytes.
package isa

import "transom/api"

// What an operation uses of an instruction, one bit each.
const (
	usesA = 1 << iota
	usesB
	usesImm
)

// uses has a row of bits for each operation; there is no operation 0.
var uses = [api.MaxOp + 1]int{
	api.OLi:   usesA | usesImm,
	api.OLui:  usesA | usesImm,
	api.OMov:  usesA | usesB,
	api.OAdd:  usesA | usesB,
	api.OSub:  usesA | usesB,
	api.OMul:  usesA | usesB,
	api.ODiv:  usesA | usesB,
	api.OAnd:  usesA | usesB,
	api.OOr:   usesA | usesB,
	api.OXor:  usesA | usesB,
	api.OShl:  usesA | usesB,
	api.OShr:  usesA | usesB,
	api.OAddi: usesA | usesImm,
	api.OLw:   usesA | usesB | usesImm,
	api.OSw:   usesA | usesB | usesImm,
	api.OLb:   usesA | usesB | usesImm,
	api.OSb:   usesA | usesB | usesImm,
	api.OJmp:  usesImm,
	api.OJal:  usesA | usesImm,
	api.OJr:   usesA,
	api.OBeq:  usesA | usesB | usesImm,
	api.OBlt:  usesA | usesB | usesImm,
	api.OBltu: usesA | usesB | usesImm,
	api.OSys:  0,
}

// immBits are the bits that a word has for Imm.
const immBits = 1<<16 - 1

// May tells whether an instruction may be.
func May(i api.Ins) bool {
	return i.Op >= 1 && i.Op <= api.MaxOp && i == fitted(i)
}

// fitted cuts an instruction of an operation that there is down to what the operation uses and a word has room for: one that loses nothing by it is one that may be.
func fitted(i api.Ins) api.Ins {
	f := api.Ins{Op: i.Op}
	if uses[i.Op]&usesA != 0 {
		f.A = i.A & (api.Regs - 1)
	}
	if uses[i.Op]&usesB != 0 {
		f.B = i.B & (api.Regs - 1)
	}
	if uses[i.Op]&usesImm != 0 {
		f.Imm = int(int16(i.Imm))
	}
	return f
}

// Word is an instruction's word.
func Word(i api.Ins) (uint32, api.Errno) {
	if !May(i) {
		return 0, api.ErrArg
	}
	return uint32(i.Op)<<24 | uint32(i.A)<<20 | uint32(i.B)<<16 | uint32(i.Imm)&immBits, api.OK
}

// Take is the instruction of a word.
func Take(w uint32) (api.Ins, api.Errno) {
	i := api.Ins{Op: int(w >> 24), A: int(w >> 20 & 15), B: int(w >> 16 & 15), Imm: int(int16(w))}
	if !May(i) {
		return api.Ins{}, api.ErrOp
	}
	return i, api.OK
}

// Bytes are a program's bytes.
func Bytes(l []api.Ins) (string, api.Errno) {
	b := make([]byte, 0, 4*len(l))
	for _, i := range l {
		w, e := Word(i)
		if e != api.OK {
			return "", e
		}
		b = append(b, byte(w), byte(w>>8), byte(w>>16), byte(w>>24))
	}
	return string(b), api.OK
}

// Back is the program of bytes.
func Back(s string) ([]api.Ins, api.Errno) {
	if len(s)%4 != 0 {
		return nil, api.ErrMore
	}
	l := make([]api.Ins, 0, len(s)/4)
	for at := 0; at < len(s); at += 4 {
		w := uint32(s[at]) | uint32(s[at+1])<<8 | uint32(s[at+2])<<16 | uint32(s[at+3])<<24
		i, e := Take(w)
		if e != api.OK {
			return nil, e
		}
		l = append(l, i)
	}
	return l, api.OK
}
