package fcs

import (
	"bytes"
	"testing"
)

// Ways: the tables hold what the function works out.
func TestTablesHoldTheStepsOfAllCases(t *testing.T) {
	for n := range uint32(cases) {
		if got, want := steps[n], step(turn, n); got != want {
			t.Errorf("steps[%d] = %x, want %x", n, got, want)
		}
		if got, want := stepsWide[n], step(turnWide, n); got != want {
			t.Errorf("stepsWide[%d] = %x, want %x", n, got, want)
		}
	}
}

// Rule 3b: the exported functions work their answers out by the function, and
// the table of wide steps stands beside it.
func TestNoAnswerHangsOnTheTableOfWideSteps(t *testing.T) {
	held := stepsWide
	t.Cleanup(func() { stepsWide = held })
	data := []byte("123456789")
	for _, other := range []uint32{0, 1, turnWide, onesWide} {
		for n := range stepsWide {
			stepsWide[n] = other
		}
		if got := Sum(true, data); got != 0xcbf43926 {
			t.Errorf("Sum = %x", got)
		}
		end := Trailer(true, data)
		if !bytes.Equal(end, []byte{0x26, 0x39, 0xf4, 0xcb}) {
			t.Errorf("Trailer = % x", end)
		}
		all := append(bytes.Clone(data), end...)
		if got := More(true, Start(true), all); got != 0xdebb20e3 {
			t.Errorf("More = %x", got)
		}
		if !Good(true, all) || Good(true, all[1:]) || Size(true) != 4 {
			t.Errorf("Good of all %v, of a part %v; Size %d", Good(true, all), Good(true, all[1:]), Size(true))
		}
		if got := Sum(false, data); got != 0x906e {
			t.Errorf("Sum of 16 bits = %x", got)
		}
	}
}
