package seg_test

import (
	"math"
	"strings"
	"testing"

	"transom/api"
	"transom/seg"
)

// places are such that a memory of 0 to 12 bytes has, hasn't, and such that sums with them go round.
var places = []uint32{0, 1, 2, 3, 4, 5, 6, 7, 8, 9, 10, 11, 12, 13, 16, 1 << 16, 1<<31 - 4, 1 << 31, math.MaxUint32 - 7, math.MaxUint32 - 4, math.MaxUint32 - 3, math.MaxUint32 - 2, math.MaxUint32 - 1, math.MaxUint32}

const whole = "abcdefghijkl"

// has is the chapter's "has the places".
func has(m string, at uint32, n int) bool { return int(at)+n <= len(m) }

// TestLoadStore: P2.1 and P2.3, words at all places of memories of all lengths.
func TestLoadStore(t *testing.T) {
	for n := range len(whole) + 1 {
		m := whole[:n]
		for _, at := range places {
			w, e := seg.Load(m, at)
			s, f := seg.Store(m, at, 0x89abcdef)
			if at%4 != 0 || !has(m, at, 4) {
				if w != 0 || e != api.ErrFault || s != m || f != api.ErrFault {
					t.Errorf("%q at %d: %x %d %q %d", m, at, w, e, s, f)
				}
				continue
			}
			want := uint32(m[at]) + 256*uint32(m[at+1]) + 65536*uint32(m[at+2]) + 16777216*uint32(m[at+3])
			if w != want || e != api.OK {
				t.Errorf("%q at %d: %x %d", m, at, w, e)
			}
			if s != m[:at]+"\xef\xcd\xab\x89"+m[at+4:] || f != api.OK {
				t.Errorf("%q at %d: %q %d", m, at, s, f)
			}
			if w, e := seg.Load(s, at); w != 0x89abcdef || e != api.OK {
				t.Errorf("%q at %d: %x %d", s, at, w, e)
			}
		}
	}
}

// TestBytePut: P2.1 and P2.3, bytes at all places.
func TestBytePut(t *testing.T) {
	for n := range len(whole) + 1 {
		m := whole[:n]
		for _, at := range places {
			b, e := seg.Byte(m, at)
			s, f := seg.Put(m, at, 0xffffff12)
			if !has(m, at, 1) {
				if b != 0 || e != api.ErrFault || s != m || f != api.ErrFault {
					t.Errorf("%q at %d: %x %d %q %d", m, at, b, e, s, f)
				}
				continue
			}
			if b != uint32(m[at]) || e != api.OK || s != m[:at]+"\x12"+m[at+1:] || f != api.OK {
				t.Errorf("%q at %d: %x %d %q %d", m, at, b, e, s, f)
			}
		}
	}
	if b, e := seg.Byte("\xff", 0); b != 255 || e != api.OK {
		t.Error(b, e)
	}
	if s, e := seg.Put("ab", 1, 0x1ff); s != "a\xff" || e != api.OK {
		t.Errorf("%q %d", s, e)
	}
}

// TestOutIn: P2.2 and P2.3, rows of bytes from all places on.
func TestOutIn(t *testing.T) {
	counts := append([]uint32{}, places...)
	for n := range len(whole) + 1 {
		m := whole[:n]
		for _, at := range places {
			for _, c := range counts {
				s, e := seg.Out(m, at, c)
				if has(m, at, int(c)) {
					if s != m[at:at+c] || e != api.OK {
						t.Errorf("%q at %d, %d: %q %d", m, at, c, s, e)
					}
				} else if s != "" || e != api.ErrFault {
					t.Errorf("%q at %d, %d: %q %d", m, at, c, s, e)
				}
			}
			for c := range 14 {
				body := strings.Repeat("Z", c)
				s, e := seg.In(m, at, body)
				if has(m, at, c) {
					if s != m[:at]+body+m[int(at)+c:] || e != api.OK {
						t.Errorf("%q at %d, %d: %q %d", m, at, c, s, e)
					}
					if back, e := seg.Out(s, at, uint32(c)); back != body || e != api.OK {
						t.Errorf("%q at %d, %d: %q %d", s, at, c, back, e)
					}
				} else if s != m || e != api.ErrFault {
					t.Errorf("%q at %d, %d: %q %d", m, at, c, s, e)
				}
			}
		}
	}
}

// TestInOrder: what is put in stands byte by byte.
func TestInOrder(t *testing.T) {
	if s, e := seg.In("abcdef", 1, "xyz"); s != "axyzef" || e != api.OK {
		t.Errorf("%q %d", s, e)
	}
	if s, e := seg.Out("abcdef", 1, 3); s != "bcd" || e != api.OK {
		t.Errorf("%q %d", s, e)
	}
}

// TestMake: P2.2, memories of bytes and noughts; a length that may not be comes first.
func TestMake(t *testing.T) {
	for _, x := range []struct {
		n    int
		s    string
		want string
		e    api.Errno
	}{
		{0, "", "", api.OK},
		{2, "", "\x00\x00", api.OK},
		{4, "ab", "ab\x00\x00", api.OK},
		{2, "ab", "ab", api.OK},
		{1, "ab", "", api.ErrBig},
		{0, "a", "", api.ErrBig},
		{-1, "", "", api.ErrArg},
		{-1, "a", "", api.ErrArg},
		{math.MinInt, "", "", api.ErrArg},
		{1025, "", "", api.ErrArg},
		{1025, strings.Repeat("a", 2000), "", api.ErrArg},
		{math.MaxInt, "a", "", api.ErrArg},
		{1024, "a", "a" + strings.Repeat("\x00", 1023), api.OK},
		{1024, strings.Repeat("a", 1024), strings.Repeat("a", 1024), api.OK},
		{1024, strings.Repeat("a", 1025), "", api.ErrBig},
	} {
		if s, e := seg.Make(x.n, x.s); s != x.want || e != x.e {
			t.Errorf("%d, %d bytes: %d bytes, %d", x.n, len(x.s), len(s), e)
		}
	}
}

// TestExample: the chapter's.
func TestExample(t *testing.T) {
	m, e := seg.Make(8, "ab")
	if len(m) != 8 || e != api.OK {
		t.Fatalf("%q %d", m, e)
	}
	if w, e := seg.Load(m, 0); w != 25185 || e != api.OK {
		t.Error(w, e)
	}
	for _, at := range []uint32{2, 8} {
		if w, e := seg.Load(m, at); w != 0 || e != api.ErrFault {
			t.Error(at, w, e)
		}
	}
}
