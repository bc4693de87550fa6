package tape_test

import (
	"slices"
	"testing"

	"transom/api"
	"transom/tape"
)

// TestTape: what was taken off comes back, in order; all else stays.
func TestTape(t *testing.T) {
	var x tape.Tape
	s := api.Seat{Boots: 3}
	s.K.Now = 7
	var events []api.Event
	for n := range 5 {
		e := api.Event{Pid: n}
		events = append(events, e)
		s.K.Trace, s.K.Cons = append(s.K.Trace, e), s.K.Cons+string(rune('a'+n))
		if n == 2 {
			continue
		}
		s = x.Take(s)
		if len(s.K.Trace) != 0 || s.K.Cons != "" || s.K.Now != 7 || s.Boots != 3 {
			t.Error(n, s)
		}
	}
	s = x.Back(s)
	if !slices.Equal(s.K.Trace, events) || s.K.Cons != "abcde" || s.K.Now != 7 || s.Boots != 3 {
		t.Error(s)
	}
}
