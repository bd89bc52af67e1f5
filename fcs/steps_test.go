package fcs

import "testing"

// Ways: each table holds what the chapter's four turns leave of each case.
func TestTablesHoldTheStepsOfAllCases(t *testing.T) {
	for _, x := range []struct {
		name  string
		by    uint32
		table [cases]uint32
	}{
		{"steps", 0x8408, steps},
		{"stepsWide", 0xedb88320, stepsWide},
	} {
		for n, got := range x.table {
			want := uint32(n)
			for range 4 {
				low := want % 2
				want /= 2
				if low == 1 {
					want ^= x.by
				}
			}
			if got != want {
				t.Errorf("%s[%d] = %x, want %x", x.name, n, got, want)
			}
		}
	}
}
