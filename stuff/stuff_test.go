package stuff_test

import (
	"bytes"
	"testing"

	"marline/api"
	"marline/stuff"
)

// maps are none, all, each of one octet, each without one, and some that look
// like chance, but are the same in every run.
func maps() []uint32 {
	out := []uint32{0, 0xffffffff, 9, 0x000a0000, 0x80000001, 0x7fffffff, 0x55555555, 0xaaaaaaaa}
	for i := range 32 {
		out = append(out, 1<<i, ^(uint32(1) << i))
	}
	seed := uint32(1)
	for range 20 {
		seed = seed*1664525 + 1013904223
		out = append(out, seed)
	}
	return out
}

// some gives n octets that look like chance, but are the same in every run.
func some(seed uint32, n int) []byte {
	out := make([]byte, n)
	for i := range out {
		seed = seed*1664525 + 1013904223
		out[i] = byte(seed >> 24)
	}
	return out
}

// all gives each octet once.
func all() []byte {
	out := make([]byte, 256)
	for c := range out {
		out[c] = byte(c)
	}
	return out
}

// samples are data of many lengths and kinds.
func samples() [][]byte {
	out := [][]byte{nil, {}, {0}, {31}, {32}, {0x7d}, {0x7e}, {0x7d, 0x7d}, {0x7d, 0x7e}, {0x7d, 0x5d, 0x7d, 0x5e},
		{0x11, 0x13, 0x31, 0x33}, {0x20}, {0x5d, 0x5e, 0xfd, 0xfe, 0xff}, all(), bytes.Repeat([]byte{0x7d}, 300), bytes.Repeat([]byte{0}, 300)}
	for n := range 30 {
		out = append(out, some(uint32(n), n))
	}
	return append(out, some(7, 1506), some(8, 5000))
}

// rows hands each row of the alphabet's octets, up to a length, to a function.
func rows(alphabet []byte, most int, each func([]byte)) {
	list := [][]byte{nil}
	for n := 0; n <= most; n++ {
		var longer [][]byte
		for _, row := range list {
			each(row)
			for _, c := range alphabet {
				longer = append(longer, append(bytes.Clone(row), c))
			}
		}
		list = longer
	}
}

// in halves a map till the octet's bit is the lowest, so that it shares no step
// with the program.
func in(m uint32, c byte) bool {
	if c > 31 {
		return false
	}
	for range c {
		m /= 2
	}
	return m%2 == 1
}

// escaped is what the chapter says of an octet.
func escaped(m uint32, c byte) []byte {
	switch {
	case c == 0x7d:
		return []byte{0x7d, 0x5d}
	case c == 0x7e:
		return []byte{0x7d, 0x5e}
	case in(m, c):
		return []byte{0x7d, c + 32}
	}
	return []byte{c}
}

// meaning reads octets as the chapter tells it: first all are left out that are
// in the map, then it takes what is left in ones and twos.
func meaning(m uint32, data []byte) ([]byte, api.Errno) {
	var left, out []byte
	for _, c := range data {
		if c == 0x7e {
			return nil, api.ErrForm
		}
	}
	for _, c := range data {
		if !in(m, c) {
			left = append(left, c)
		}
	}
	for len(left) > 0 {
		switch {
		case left[0] != 0x7d:
			out, left = append(out, left[0]), left[1:]
		case len(left) == 1:
			return nil, api.ErrAbort
		default:
			out, left = append(out, left[1]^0x20), left[2:]
		}
	}
	return out, api.OK
}

// check holds Unstuff against what is wanted.
func check(t *testing.T, m uint32, data, want []byte, code api.Errno) {
	t.Helper()
	got, e := stuff.Unstuff(m, data)
	if e != code || !bytes.Equal(got, want) {
		t.Errorf("Unstuff(%x, % x) = % x, %d, want % x, %d", m, data, got, e, want, code)
	}
	if e != api.OK && got != nil {
		t.Errorf("Unstuff(%x, % x) has %d octets beside an error", m, data, len(got))
	}
}

// P4.1: Stuff, Size.

func TestStuffOfKnownOctets(t *testing.T) {
	for _, x := range []struct {
		m          uint32
		data, want []byte
	}{
		{1 << 0x11, []byte{0x7e, 0x11}, []byte{0x7d, 0x5e, 0x7d, 0x31}},
		{0, []byte{0x7e, 0x11}, []byte{0x7d, 0x5e, 0x11}},
		{0, []byte{0x7d}, []byte{0x7d, 0x5d}},
		{0, []byte{0x7d, 0x5d}, []byte{0x7d, 0x5d, 0x5d}},
		{1, []byte{0, 1, 32}, []byte{0x7d, 0x20, 1, 32}},
		{1 << 31, []byte{30, 31, 32, 63}, []byte{30, 0x7d, 0x3f, 32, 63}},
		{0xffffffff, []byte{0xff, 3, 0xc0, 0x21}, []byte{0xff, 0x7d, 0x23, 0xc0, 0x21}},
		{0xffffffff, nil, nil},
		{0, []byte{}, nil},
	} {
		if got := stuff.Stuff(x.m, x.data); !bytes.Equal(got, x.want) {
			t.Errorf("Stuff(%x, % x) = % x, want % x", x.m, x.data, got, x.want)
		}
		if got := stuff.Size(x.m, x.data); got != len(x.want) {
			t.Errorf("Size(%x, % x) = %d, want %d", x.m, x.data, got, len(x.want))
		}
	}
}

func TestStuffAndSizeOfEachOctet(t *testing.T) {
	for _, m := range maps() {
		for _, c := range all() {
			want := escaped(m, c)
			if got := stuff.Stuff(m, []byte{c}); !bytes.Equal(got, want) {
				t.Errorf("Stuff(%x, %02x) = % x, want % x", m, c, got, want)
			}
			if got := stuff.Size(m, []byte{c}); got != len(want) {
				t.Errorf("Size(%x, %02x) = %d", m, c, got)
			}
		}
	}
}

func TestStuffAndSizeOfManyOctets(t *testing.T) {
	for _, m := range maps() {
		for _, data := range samples() {
			var want []byte
			for _, c := range data {
				want = append(want, escaped(m, c)...)
			}
			if got := stuff.Stuff(m, data); !bytes.Equal(got, want) {
				t.Errorf("Stuff(%x, % x) = % x, want % x", m, data, got, want)
			}
			if got := stuff.Size(m, data); got != len(want) {
				t.Errorf("Size(%x, % x) = %d, want %d", m, data, got, len(want))
			}
		}
	}
}

// P4.2: Unstuff.

func TestUnstuffOfKnownOctets(t *testing.T) {
	for _, x := range []struct {
		m          uint32
		data, want []byte
	}{
		{1 << 0x11, []byte{0x7d, 0x5e, 0x7d, 0x31}, []byte{0x7e, 0x11}},
		{0, nil, nil},
		{0, []byte{}, nil},
		{0xffffffff, []byte{0, 1, 31}, nil},
		{0, []byte{0, 1, 31, 32}, []byte{0, 1, 31, 32}},
		{0, []byte{0x7d, 0x41}, []byte{0x61}},
		{0, []byte{0x7d, 0xff}, []byte{0xdf}},
		{0, []byte{0x7d, 0}, []byte{0x20}},
		{1, []byte{0x7d, 0, 0x41}, []byte{0x61}},
		{1 << 31, []byte{31, 0x7d, 31, 31, 0x5d, 31}, []byte{0x7d}},
		{1 << 31, []byte{0x7d, 30, 31}, []byte{0x3e}},
		{0, []byte{0x7d, 0x7d}, []byte{0x5d}},
		{0, []byte{0x7d, 0x7d, 0x41}, []byte{0x5d, 0x41}},
		{0, []byte{0x7d, 0x7d, 0x7d, 0x7d}, []byte{0x5d, 0x5d}},
		{1, []byte{0x7d, 0, 0x7d, 0}, []byte{0x5d}},
	} {
		check(t, x.m, x.data, x.want, api.OK)
	}
}

func TestUnstuffOfEachOctet(t *testing.T) {
	for _, m := range maps() {
		for _, c := range all() {
			for _, data := range [][]byte{{c}, {0x7d, c}, {c, 0x41}, {0x7d, c, 0x41}} {
				want, code := meaning(m, data)
				check(t, m, data, want, code)
			}
		}
	}
}

func TestUnstuffOfAllShortRows(t *testing.T) {
	for _, m := range []uint32{0, 1 << 0x11, 1, 0xffffffff} {
		rows([]byte{0x7d, 0x7e, 0x11, 0x31, 0x5d, 0}, 5, func(data []byte) {
			want, code := meaning(m, data)
			check(t, m, data, want, code)
		})
	}
}

func TestUnstuffOfManyOctets(t *testing.T) {
	for _, m := range maps() {
		for _, data := range samples() {
			want, code := meaning(m, data)
			check(t, m, data, want, code)
			free := bytes.ReplaceAll(data, []byte{0x7e}, nil)
			want, code = meaning(m, free)
			check(t, m, free, want, code)
		}
	}
}

func TestAFlagIsToldWhereverItStands(t *testing.T) {
	for _, m := range []uint32{0, 0xffffffff} {
		for _, data := range [][]byte{{0x7e}, {0x7e, 1}, {1, 0x7e}, {1, 0x7e, 1}, {0x7d, 0x7e}, {0x7d, 0x7d, 0x7e}, {0x7e, 0x7e}} {
			check(t, m, data, nil, api.ErrForm)
		}
		long := bytes.Repeat([]byte{0x41}, 2000)
		for at := range long {
			long[at] = 0x7e
			check(t, m, long, nil, api.ErrForm)
			long[at] = 0x41
		}
	}
}

func TestAFlagIsToldAheadOfABrokenEnd(t *testing.T) {
	for _, data := range [][]byte{{0x7e, 0x7d}, {1, 0x7e, 2, 0x7d}, {0x7d, 0x7e, 0x7d}, {0x7e, 0x7d, 0x7d, 0x7d}} {
		check(t, 0, data, nil, api.ErrForm)
	}
}

func TestAnEndThatEscapesNothing(t *testing.T) {
	for _, x := range []struct {
		m    uint32
		data []byte
	}{
		{0, []byte{0x7d}},
		{0, []byte{1, 0x7d}},
		{0, []byte{1, 0x7d, 0x7d, 0x7d}},
		{0, []byte{0x7d, 0x5d, 0x7d}},
		{1 << 0x11, []byte{1, 0x7d, 0x11}},
		{1 << 0x11, []byte{0x7d, 0x11, 0x11}},
		{0xffffffff, []byte{0x7d, 0, 0x7d, 1, 0x7d, 2}},
	} {
		check(t, x.m, x.data, nil, api.ErrAbort)
	}
	for n := range 70 {
		row := bytes.Repeat([]byte{0x7d}, n)
		if n%2 == 1 {
			check(t, 0, row, nil, api.ErrAbort)
			continue
		}
		check(t, 0, row, bytes.Repeat([]byte{0x5d}, n/2), api.OK)
	}
}

// P4.3: what is escaped, and read again.

func TestReadByAnyMapWithin(t *testing.T) {
	for _, m := range maps() {
		for _, data := range samples() {
			written := stuff.Stuff(m, data)
			check(t, m, written, data, api.OK)
			check(t, 0, written, data, api.OK)
			for _, other := range []uint32{1, 1 << 31, 0x000a0000, 0x55555555, 0x0000ffff} {
				check(t, m&other, written, data, api.OK)
			}
		}
	}
}

// A map that isn't within the other one leaves out what stands unescaped.
func TestReadByAMapThatIsNotWithin(t *testing.T) {
	check(t, 3, stuff.Stuff(1, []byte{0, 1, 2}), []byte{0, 2}, api.OK)
}

// Octets that come in between, of those in the map, play no part.
func TestWhatIsPutInBetweenIsLeftOut(t *testing.T) {
	for _, data := range samples() {
		var spread []byte
		for i, c := range stuff.Stuff(0x000a0000, data) {
			spread = append(spread, []byte{0x11, 0x13}[i%2], c, 0x13)
		}
		check(t, 0x000a0000, spread, data, api.OK)
	}
}

// Of one length there is no other row either: each octet takes one or two, by
// itself.
func TestStuffIsTheShortestOfAllThatIsReadAsIt(t *testing.T) {
	for _, m := range []uint32{0, 1 << 0x11, 1, 0xffffffff} {
		rows([]byte{0x7d, 0x11, 0x31, 0x5d, 0x5e, 0}, 5, func(other []byte) {
			data, e := stuff.Unstuff(m, other)
			if e != api.OK {
				return
			}
			written := stuff.Stuff(m, data)
			if len(written) > len(other) || len(written) == len(other) && !bytes.Equal(written, other) {
				t.Errorf("by %x, % x is read from % x, and written as % x", m, data, other, written)
			}
		})
	}
}

func TestWhatIsEscapedHasNoFlagAndNoOctetOfTheMap(t *testing.T) {
	for _, m := range maps() {
		for _, c := range stuff.Stuff(m, all()) {
			if c == 0x7e || in(m, c) {
				t.Errorf("escaped by %x there is %02x", m, c)
			}
		}
	}
}

// K5: what is handed in, and what is answered. K6: the same call answers the
// same.

func TestArgumentsStayAndAnswersAreNew(t *testing.T) {
	calls := map[string]func([]byte) []byte{
		"Stuff":   func(b []byte) []byte { return stuff.Stuff(1<<0x11, b) },
		"Unstuff": func(b []byte) []byte { l, _ := stuff.Unstuff(1<<0x11, b); return l },
		"Size":    func(b []byte) []byte { return make([]byte, stuff.Size(1<<0x11, b)) },
	}
	for name, call := range calls {
		for _, given := range [][]byte{{}, {1, 2, 3}, {1, 0x11, 2}, {0x11, 1, 0x7d, 0x11, 0x5e, 0x11}, {1, 0x7d}} {
			room := append(bytes.Clone(given), 0x7d, 0x7e, 0x11, 0x41, 0x7e, 0x7d, 0x11, 0x41)
			before := bytes.Clone(room)
			first := call(room[:len(given)])
			exact := bytes.Clone(call(bytes.Clone(given)))
			if !bytes.Equal(first, exact) {
				t.Errorf("%s of % x hangs on what lies behind the length: % x, % x", name, given, first, exact)
			}
			whole := first[:cap(first)]
			for i := range whole {
				whole[i] = 0x55
			}
			if !bytes.Equal(room, before) {
				t.Errorf("%s of % x changed, or handed out, what it was given", name, given)
			}
			if again := call(room[:len(given)]); !bytes.Equal(again, exact) {
				t.Errorf("%s of % x = % x, and again % x", name, given, exact, again)
			}
		}
	}
}
