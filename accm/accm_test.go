package accm_test

import (
	"bytes"
	"slices"
	"testing"

	"marline/accm"
)

// maps are none, all, each of one octet, each without one, and some that look
// like chance, but are the same in every run.
func maps() []uint32 {
	out := []uint32{0, 0xffffffff, 9, 0x000a0000, 0x80000001, 0x7fffffff, 0xfffffffe, 0x0000ffff, 0xffff0000, 0x55555555, 0xaaaaaaaa}
	for i := range 32 {
		out = append(out, 1<<i, ^(uint32(1) << i))
	}
	seed := uint32(1)
	for range 100 {
		seed = seed*1664525 + 1013904223
		out = append(out, seed)
	}
	return out
}

// in halves a map till the octet's bit is the lowest, so that it shares no step
// with the package.
func in(m uint32, c int) bool {
	if c > 31 {
		return false
	}
	for range c {
		m /= 2
	}
	return m%2 == 1
}

// P3.1: Has.

func TestHasOfKnownMaps(t *testing.T) {
	for _, x := range []struct {
		m    uint32
		c    byte
		want bool
	}{
		{9, 0, true}, {9, 1, false}, {9, 2, false}, {9, 3, true}, {9, 4, false},
		{0, 0, false}, {0, 31, false}, {1, 0, true}, {1 << 31, 31, true}, {1 << 31, 30, false}, {0x7fffffff, 31, false},
		{0xa0000, 0x11, true}, {0xa0000, 0x12, false}, {0xa0000, 0x13, true},
	} {
		if got := accm.Has(x.m, x.c); got != x.want {
			t.Errorf("Has(%x, %d) = %v", x.m, x.c, got)
		}
	}
}

func TestHasOfEachOctet(t *testing.T) {
	for _, m := range maps() {
		for c := range 256 {
			if got, want := accm.Has(m, byte(c)), in(m, c); got != want {
				t.Errorf("Has(%x, %d) = %v", m, c, got)
			}
		}
	}
}

func TestNoOctetFromThirtyTwoOnIsInAMap(t *testing.T) {
	for c := 32; c < 256; c++ {
		for _, m := range []uint32{0xffffffff, 1 << (c % 32)} {
			if accm.Has(m, byte(c)) {
				t.Errorf("Has(%x, %d)", m, c)
			}
		}
	}
}

// P3.1: Must.

func TestMustOfEachOctet(t *testing.T) {
	for _, m := range maps() {
		for c := range 256 {
			want := in(m, c) || c == 0x7d || c == 0x7e
			if got := accm.Must(m, byte(c)); got != want {
				t.Errorf("Must(%x, %02x) = %v", m, c, got)
			}
		}
	}
}

func TestMustOfOctetsThatMeanSomething(t *testing.T) {
	for _, m := range []uint32{0, 0xffffffff} {
		for _, c := range []byte{0x7d, 0x7e} {
			if !accm.Must(m, c) {
				t.Errorf("not Must(%x, %02x)", m, c)
			}
			if accm.Has(m, c) {
				t.Errorf("Has(%x, %02x)", m, c)
			}
		}
		for _, c := range []byte{0x20, 0x5d, 0x5e, 0x7c, 0x7f, 0xfd, 0xfe, 0xff} {
			if accm.Must(m, c) {
				t.Errorf("Must(%x, %02x)", m, c)
			}
		}
	}
}

// P3.1: Within.

func TestWithinOfKnownMaps(t *testing.T) {
	for _, x := range []struct {
		m, in uint32
		want  bool
	}{
		{0, 0, true}, {0, 1, true}, {1, 0, false}, {2, 3, true}, {3, 2, false}, {1, 2, false}, {2, 1, false},
		{1 << 31, 1 << 31, true}, {1 << 31, 0x7fffffff, false}, {0x7fffffff, 1 << 31, false},
		{0xffffffff, 0xffffffff, true}, {0xffffffff, 0xfffffffe, false}, {0xa0000, 0xffffffff, true},
	} {
		if got := accm.Within(x.m, x.in); got != x.want {
			t.Errorf("Within(%x, %x) = %v", x.m, x.in, got)
		}
	}
}

func TestWithinIsThatEachOctetIsInTheOther(t *testing.T) {
	for _, m := range maps() {
		for _, other := range maps() {
			want := true
			for c := range 32 {
				want = want && (!in(m, c) || in(other, c))
			}
			if got := accm.Within(m, other); got != want {
				t.Errorf("Within(%x, %x) = %v", m, other, got)
			}
		}
	}
}

// P3.1: List.

func TestListOfKnownMaps(t *testing.T) {
	all := make([]byte, 32)
	for c := range all {
		all[c] = byte(c)
	}
	for _, x := range []struct {
		m    uint32
		want []byte
	}{
		{9, []byte{0, 3}}, {0, nil}, {1, []byte{0}}, {1 << 31, []byte{31}}, {0x80000001, []byte{0, 31}},
		{0xa0000, []byte{0x11, 0x13}}, {0xffffffff, all}, {0xfffffffe, all[1:]}, {0x7fffffff, all[:31]},
	} {
		if got := accm.List(x.m); !bytes.Equal(got, x.want) {
			t.Errorf("List(%x) = %v, want %v", x.m, got, x.want)
		}
	}
}

func TestListIsAllOctetsThatAMapHasRising(t *testing.T) {
	for _, m := range maps() {
		var want []byte
		for c := range 256 {
			if in(m, c) {
				want = append(want, byte(c))
			}
		}
		if got := accm.List(m); !bytes.Equal(got, want) {
			t.Errorf("List(%x) = %v, want %v", m, got, want)
		}
	}
}

// P3.1: Of.

func TestOfKnownOctets(t *testing.T) {
	for _, x := range []struct {
		l    []byte
		want uint32
	}{
		{nil, 0}, {[]byte{}, 0}, {[]byte{0}, 1}, {[]byte{31}, 1 << 31}, {[]byte{32}, 0}, {[]byte{0, 3}, 9},
		{[]byte{3, 0}, 9}, {[]byte{3, 3, 0, 3}, 9}, {[]byte{0x13, 0x11}, 0xa0000},
		{[]byte{33, 5, 64, 255, 0x7d, 0x7e}, 1 << 5},
	} {
		if got := accm.Of(x.l...); got != x.want {
			t.Errorf("Of(%v) = %x, want %x", x.l, got, x.want)
		}
	}
	if got := accm.Of(); got != 0 {
		t.Errorf("Of() = %x", got)
	}
	if got := accm.Of(31, 0, 17); got != 0x80020001 {
		t.Errorf("Of(31, 0, 17) = %x", got)
	}
}

func TestOfEachOctet(t *testing.T) {
	weight := uint32(1)
	for c := range 256 {
		want := weight
		if c > 31 {
			want = 0
		}
		if got := accm.Of(byte(c)); got != want {
			t.Errorf("Of(%d) = %x, want %x", c, got, want)
		}
		if got := accm.Of(byte(c), 7); got != want|1<<7 {
			t.Errorf("Of(%d, 7) = %x, want %x", c, got, want|1<<7)
		}
		weight *= 2
	}
}

func TestOfTakesOctetsInAnyOrderAndNumber(t *testing.T) {
	for _, m := range maps() {
		l := accm.List(m)
		if got := accm.Of(l...); got != m {
			t.Errorf("Of the List of %x = %x", m, got)
		}
		back := append(bytes.Clone(l), l...)
		slices.Reverse(back)
		for c := 32; c < 256; c++ {
			back = append(back, byte(c))
		}
		if got := accm.Of(back...); got != m {
			t.Errorf("Of twice the List of %x, turned round, and all other octets = %x", m, got)
		}
	}
}

// K5: what is handed in, and what is answered. K6: the same call answers the
// same.

func TestArgumentsStayAndAnswersAreNew(t *testing.T) {
	room := []byte{3, 0, 200, 7, 31, 30}
	before := bytes.Clone(room)
	if got := accm.Of(room[:3]...); got != 9 {
		t.Errorf("Of = %x: it hangs on what lies behind the length", got)
	}
	if !bytes.Equal(room, before) {
		t.Errorf("Of changed what it was given: %v", room)
	}
	for _, m := range maps() {
		first := accm.List(m)
		want := bytes.Clone(first)
		all := first[:cap(first)]
		for i := range all {
			all[i] = 0x55
		}
		if again := accm.List(m); !bytes.Equal(again, want) {
			t.Errorf("List(%x) = %v, and again %v", m, want, again)
		}
	}
}
