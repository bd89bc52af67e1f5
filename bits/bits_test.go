package bits_test

import (
	"bytes"
	"strings"
	"testing"

	"marline/bits"
)

// P1.1: Of.

func TestOfPutsTheLowestBitFirst(t *testing.T) {
	for _, x := range []struct{ octets, want []byte }{
		{[]byte{6}, []byte{0, 1, 1, 0, 0, 0, 0, 0}},
		{[]byte{0}, []byte{0, 0, 0, 0, 0, 0, 0, 0}},
		{[]byte{0xff}, []byte{1, 1, 1, 1, 1, 1, 1, 1}},
		{[]byte{0x80}, []byte{0, 0, 0, 0, 0, 0, 0, 1}},
		{[]byte{0x0f, 0xa0}, []byte{1, 1, 1, 1, 0, 0, 0, 0, 0, 0, 0, 0, 0, 1, 0, 1}},
	} {
		if got := bits.Of(x.octets); !bytes.Equal(got, x.want) {
			t.Errorf("Of(% x) = %v, want %v", x.octets, got, x.want)
		}
	}
}

func TestOfOfEachOctet(t *testing.T) {
	for n := range 256 {
		got := bits.Of([]byte{byte(n)})
		if len(got) != 8 {
			t.Fatalf("Of(%02x) has %d bits", n, len(got))
		}
		weight, sum := 1, 0
		for _, b := range got {
			if b > 1 {
				t.Errorf("Of(%02x) = %v: not only 0 and 1", n, got)
			}
			sum += weight * int(b)
			weight *= 2
		}
		if sum != n {
			t.Errorf("Of(%02x) = %v", n, got)
		}
	}
}

func TestOfNothing(t *testing.T) {
	for _, b := range [][]byte{nil, {}} {
		if got := bits.Of(b); len(got) != 0 {
			t.Errorf("Of of nothing = %v", got)
		}
	}
}

// P1.1: Octets.

func TestOctetsTakesTheLowestBitFirst(t *testing.T) {
	for _, x := range []struct{ bits, want []byte }{
		{[]byte{0, 1, 1, 0, 0, 0, 0, 0}, []byte{6}},
		{[]byte{1, 0, 0, 0, 0, 0, 0, 0, 0, 0, 0, 0, 0, 0, 0, 1}, []byte{0x01, 0x80}},
		{[]byte{2, 3, 255, 254, 4, 128, 16, 64}, []byte{6}},
		{[]byte{1, 3, 5, 7, 9, 129, 253, 255}, []byte{0xff}},
		{nil, nil},
		{[]byte{}, nil},
	} {
		got, ok := bits.Octets(x.bits)
		if !ok || !bytes.Equal(got, x.want) {
			t.Errorf("Octets(%v) = % x, %v, want % x", x.bits, got, ok, x.want)
		}
	}
}

func TestOctetsTakesMultiplesOfEightOnly(t *testing.T) {
	for n := range 50 {
		got, ok := bits.Octets(bytes.Repeat([]byte{1}, n))
		if n%8 != 0 {
			if ok || len(got) != 0 {
				t.Errorf("Octets of %d bits = % x, %v", n, got, ok)
			}
			continue
		}
		if !ok || !bytes.Equal(got, bytes.Repeat([]byte{0xff}, n/8)) {
			t.Errorf("Octets of %d bits = % x, %v", n, got, ok)
		}
	}
}

func TestOctetsOfOf(t *testing.T) {
	all := make([]byte, 0, 2*256)
	for n := range 256 {
		all = append(all, byte(n), byte(n*181))
	}
	for from := range all {
		got, ok := bits.Octets(bits.Of(all[from:]))
		if !ok || !bytes.Equal(got, all[from:]) {
			t.Fatalf("from %d on: % x, %v", from, got, ok)
		}
	}
}

// P1.1: Clean.

func TestCleanKeepsTheLowestBit(t *testing.T) {
	all := make([]byte, 256)
	want := make([]byte, 256)
	for n := range all {
		all[n] = byte(n)
		if n%2 == 1 {
			want[n] = 1
		}
	}
	for n := range 257 {
		if got := bits.Clean(all[:n]); !bytes.Equal(got, want[:n]) {
			t.Fatalf("Clean of %d bytes = %v", n, got)
		}
	}
	if got := bits.Clean(nil); len(got) != 0 {
		t.Errorf("Clean of nothing = %v", got)
	}
}

func TestCleanChangesNoBit(t *testing.T) {
	dirty := []byte{2, 3, 254, 255, 8, 1, 0, 77}
	clean := bits.Clean(dirty)
	if again := bits.Clean(clean); !bytes.Equal(again, clean) {
		t.Errorf("Clean of %v = %v", clean, again)
	}
	a, _ := bits.Octets(dirty)
	b, ok := bits.Octets(clean)
	if !ok || !bytes.Equal(a, b) || bits.Run(dirty) != bits.Run(clean) {
		t.Errorf("%v became %v", dirty, clean)
	}
}

// P1.2: Run.

func TestRun(t *testing.T) {
	for _, x := range []struct {
		bits []byte
		want int
	}{
		{nil, 0},
		{[]byte{}, 0},
		{[]byte{0}, 0},
		{[]byte{2, 254, 0}, 0},
		{[]byte{1}, 1},
		{[]byte{255}, 1},
		{[]byte{0, 1, 1, 1, 1, 1, 1, 0}, 6},
		{[]byte{1, 1, 1, 0, 1, 1}, 3},
		{[]byte{1, 1, 0, 1, 1, 1}, 3},
		{[]byte{1, 0, 1, 1, 0, 1}, 2},
		{[]byte{1, 1, 0, 0, 1, 1}, 2},
		{[]byte{3, 5, 2, 7, 9, 11, 4}, 3},
		{bits.Of([]byte{0xc0, 0x0f}), 6},
	} {
		if got := bits.Run(x.bits); got != x.want {
			t.Errorf("Run(%v) = %d, want %d", x.bits, got, x.want)
		}
	}
}

func TestRunHasNoBound(t *testing.T) {
	for _, n := range []int{255, 256, 257, 65535, 65536, 70000} {
		b := append([]byte{1, 1, 0}, bytes.Repeat([]byte{1}, n)...)
		if got := bits.Run(b); got != n {
			t.Errorf("Run of %d 1s = %d", n, got)
		}
	}
}

func TestRunOfAllShortRows(t *testing.T) {
	for length := range 13 {
		for n := range 1 << length {
			b := make([]byte, length)
			for i := range b {
				b[i] = byte(n >> i & 1)
			}
			if got, want := bits.Run(b), longest(b); got != want {
				t.Fatalf("Run(%v) = %d, want %d", b, got, want)
			}
		}
	}
}

// longest parts a text at its 0s, so that it shares no step with Run.
func longest(b []byte) int {
	most := 0
	for _, row := range strings.Split(string(b), "\x00") {
		most = max(most, len(row))
	}
	return most
}

// K5: what is handed in, and what is answered.

func TestArgumentsStayAndAnswersAreNew(t *testing.T) {
	room := bytes.Repeat([]byte{0xab}, 32)
	given := []byte{3, 2, 1, 0, 255, 254, 7, 6}
	copy(room, given)
	calls := map[string]func([]byte) []byte{
		"Of":     bits.Of,
		"Octets": func(b []byte) []byte { l, _ := bits.Octets(b); return l },
		"Clean":  bits.Clean,
		"Run":    func(b []byte) []byte { return make([]byte, bits.Run(b)) },
	}
	for name, call := range calls {
		before := bytes.Clone(room)
		first := call(room[:len(given)])
		exact := call(given)
		if !bytes.Equal(first, exact) {
			t.Errorf("%s hangs on what lies behind the length: %v, %v", name, first, exact)
		}
		whole := first[:cap(first)]
		for i := range whole {
			whole[i] = 0x55
		}
		if !bytes.Equal(room, before) {
			t.Errorf("%s changed, or handed out, what it was given", name)
		}
		if again := call(room[:len(given)]); !bytes.Equal(again, exact) {
			t.Errorf("%s kept what it answered: %v, %v", name, again, exact)
		}
	}
}
