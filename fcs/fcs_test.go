package fcs_test

import (
	"bytes"
	"encoding/binary"
	"hash/crc32"
	"strconv"
	"testing"

	"marline/fcs"
)

// kinds are the two registers, with what the chapter says of each.
var kinds = []struct {
	wide        bool
	size        int
	start, turn uint32
	behind      uint32
}{
	{false, 2, 0xffff, 0x8408, 0xf0b8},
	{true, 4, 0xffffffff, 0xedb88320, 0xdebb20e3},
}

// bitwise is the register as the chapter tells it, a bit at a time, so that it
// shares no table with the package.
func bitwise(turn, reg uint32, data []byte) uint32 {
	for _, octet := range data {
		reg ^= uint32(octet)
		for i := 0; i < 8; i++ {
			low := reg & 1
			reg /= 2
			if low == 1 {
				reg ^= turn
			}
		}
	}
	return reg
}

// some gives n octets that look like chance, but are the same in every run.
func some(seed uint32, n int) []byte {
	out := make([]byte, n)
	for i := range out {
		seed = seed*1664525 + 1013904223
		out[i] = byte(seed >> 24)
	}
	return out
}

// whole gives data with its trailer behind it.
func whole(wide bool, data []byte) []byte {
	return append(bytes.Clone(data), fcs.Trailer(wide, data)...)
}

// turned gives octets of which the bits of a pattern are turned, from a bit
// on; the lowest bit of an octet is its first one.
func turned(b []byte, from int, pattern uint32) []byte {
	out := bytes.Clone(b)
	for i := range 32 {
		if pattern>>i&1 == 1 {
			at := from + i
			out[at/8] ^= 1 << (at % 8)
		}
	}
	return out
}

func word(wide bool) string {
	return "wide " + strconv.FormatBool(wide)
}

// samples are data of many lengths and kinds.
func samples() [][]byte {
	out := [][]byte{nil, {}, {0}, {1}, {0xff}, {0, 0}, {0xff, 0xff}, {0, 0, 0, 0}, []byte("123456789"),
		{0xff, 0x03, 0xc0, 0x21, 9, 0, 0, 8, 0, 0, 0, 0}, bytes.Repeat([]byte{0}, 300), bytes.Repeat([]byte{0xff}, 300)}
	for n := range 40 {
		out = append(out, some(uint32(n), n))
	}
	return append(out, some(7, 1506), some(8, 70000))
}

// P2.1: Size, Start.

func TestSizeAndStart(t *testing.T) {
	for _, k := range kinds {
		if got := fcs.Size(k.wide); got != k.size {
			t.Errorf("%s: Size = %d", word(k.wide), got)
		}
		if got := fcs.Start(k.wide); got != k.start {
			t.Errorf("%s: Start = %x", word(k.wide), got)
		}
	}
}

// P2.1: More.

func TestMoreOfEachOctet(t *testing.T) {
	for _, k := range kinds {
		for n := range 256 {
			data := []byte{byte(n)}
			for _, reg := range []uint32{0, 1, 0x80, 0x8000, k.start, k.turn, k.behind} {
				if got, want := fcs.More(k.wide, reg, data), bitwise(k.turn, reg, data); got != want {
					t.Fatalf("%s: More of %x and %02x = %x, want %x", word(k.wide), reg, n, got, want)
				}
			}
		}
	}
}

func TestMoreOfEachNarrowRegister(t *testing.T) {
	for reg := range uint32(1 << 16) {
		data := []byte{byte(reg * 37), 0xa5}
		if got, want := fcs.More(false, reg, data), bitwise(0x8408, reg, data); got != want {
			t.Fatalf("More of %x = %x, want %x", reg, got, want)
		}
	}
}

func TestMoreOfEachBitOfAWideRegister(t *testing.T) {
	for i := range 32 {
		for _, reg := range []uint32{1 << i, ^(uint32(1) << i)} {
			if got, want := fcs.More(true, reg, []byte{0x5a}), bitwise(0xedb88320, reg, []byte{0x5a}); got != want {
				t.Errorf("More of %x = %x, want %x", reg, got, want)
			}
		}
	}
}

func TestMoreOfManyOctets(t *testing.T) {
	for _, k := range kinds {
		for _, data := range samples() {
			if got, want := fcs.More(k.wide, k.start, data), bitwise(k.turn, k.start, data); got != want {
				t.Errorf("%s: More of %d octets = %x, want %x", word(k.wide), len(data), got, want)
			}
		}
	}
}

func TestMoreGoesOnWhereItWas(t *testing.T) {
	data := some(3, 60)
	for _, k := range kinds {
		want := fcs.More(k.wide, k.start, data)
		for cut := range len(data) + 1 {
			if got := fcs.More(k.wide, fcs.More(k.wide, k.start, data[:cut]), data[cut:]); got != want {
				t.Errorf("%s: cut at %d: %x, want %x", word(k.wide), cut, got, want)
			}
		}
		reg := k.start
		for i := range data {
			reg = fcs.More(k.wide, reg, data[i:i+1])
		}
		if reg != want {
			t.Errorf("%s: octet by octet: %x, want %x", word(k.wide), reg, want)
		}
	}
}

func TestMoreOfNoOctets(t *testing.T) {
	for _, none := range [][]byte{nil, {}} {
		for _, reg := range []uint32{0, 7, 0xffff, 0x1ffff, 0x12345678, 0xffff0000, 0xffffffff} {
			if got := fcs.More(true, reg, none); got != reg {
				t.Errorf("wide: More of %x = %x", reg, got)
			}
			if got := fcs.More(false, reg, none); got != reg&0xffff {
				t.Errorf("More of %x = %x", reg, got)
			}
		}
	}
}

func TestOfANarrowRegisterSixteenBitsCount(t *testing.T) {
	for _, data := range samples() {
		for _, low := range []uint32{0, 1, 0x8408, 0xffff} {
			want := fcs.More(false, low, data)
			if want > 0xffff {
				t.Fatalf("More of %x = %x: more than 16 bits", low, want)
			}
			for _, high := range []uint32{1 << 16, 1 << 31, 0xffff0000, 0xedb80000} {
				if got := fcs.More(false, high|low, data); got != want {
					t.Errorf("More of %x and %d octets = %x, want %x", high|low, len(data), got, want)
				}
			}
		}
	}
}

// P2.2: Sum.

func TestSumOfKnownOctets(t *testing.T) {
	for _, x := range []struct {
		data         []byte
		narrow, wide uint32
	}{
		{[]byte("123456789"), 0x906e, 0xcbf43926},
		{nil, 0, 0},
		{[]byte{}, 0, 0},
		{[]byte{0}, 0xf078, 0xd202ef8d},
		{[]byte{0, 0}, 0x0f47, 0x41d912ff},
		{[]byte("a"), 0x82f7, 0xe8b7be43},
	} {
		if got := fcs.Sum(false, x.data); got != x.narrow {
			t.Errorf("Sum of % x = %x, want %x", x.data, got, x.narrow)
		}
		if got := fcs.Sum(true, x.data); got != x.wide {
			t.Errorf("wide: Sum of % x = %x, want %x", x.data, got, x.wide)
		}
	}
}

func TestSumIsTheRegisterTurned(t *testing.T) {
	for _, k := range kinds {
		for _, data := range samples() {
			got, want := fcs.Sum(k.wide, data), ^bitwise(k.turn, k.start, data)&k.start
			if got != want {
				t.Errorf("%s: Sum of %d octets = %x, want %x", word(k.wide), len(data), got, want)
			}
		}
	}
}

func TestWideSumIsThatOfTheLibrary(t *testing.T) {
	for _, data := range samples() {
		if got, want := fcs.Sum(true, data), crc32.ChecksumIEEE(data); got != want {
			t.Errorf("Sum of %d octets = %x, want %x", len(data), got, want)
		}
	}
}

// P2.2: Trailer.

func TestTrailerOfKnownOctets(t *testing.T) {
	for _, x := range []struct {
		data         []byte
		narrow, wide []byte
	}{
		{[]byte("123456789"), []byte{0x6e, 0x90}, []byte{0x26, 0x39, 0xf4, 0xcb}},
		{nil, []byte{0, 0}, []byte{0, 0, 0, 0}},
		{[]byte{0}, []byte{0x78, 0xf0}, []byte{0x8d, 0xef, 0x02, 0xd2}},
	} {
		if got := fcs.Trailer(false, x.data); !bytes.Equal(got, x.narrow) {
			t.Errorf("Trailer of % x = % x", x.data, got)
		}
		if got := fcs.Trailer(true, x.data); !bytes.Equal(got, x.wide) {
			t.Errorf("wide: Trailer of % x = % x", x.data, got)
		}
	}
}

func TestTrailerIsTheSumLowestFirst(t *testing.T) {
	for _, data := range samples() {
		if got, want := fcs.Trailer(false, data), binary.LittleEndian.AppendUint16(nil, uint16(fcs.Sum(false, data))); !bytes.Equal(got, want) {
			t.Errorf("Trailer of %d octets = % x, want % x", len(data), got, want)
		}
		if got, want := fcs.Trailer(true, data), binary.LittleEndian.AppendUint32(nil, fcs.Sum(true, data)); !bytes.Equal(got, want) {
			t.Errorf("wide: Trailer of %d octets = % x, want % x", len(data), got, want)
		}
	}
}

// P2.2: Good.

func TestGoodOfDataAndItsTrailer(t *testing.T) {
	for _, k := range kinds {
		for _, data := range samples() {
			if !fcs.Good(k.wide, whole(k.wide, data)) {
				t.Errorf("%s: %d octets and their Trailer aren't Good", word(k.wide), len(data))
			}
		}
	}
}

func TestGoodOfTooFewOctets(t *testing.T) {
	for _, k := range kinds {
		for n := range k.size {
			for _, c := range []byte{0, 1, 0xff} {
				if b := bytes.Repeat([]byte{c}, n); fcs.Good(k.wide, b) {
					t.Errorf("%s: % x is Good", word(k.wide), b)
				}
			}
		}
		if fcs.Good(k.wide, nil) {
			t.Errorf("%s: nil is Good", word(k.wide))
		}
		if b := make([]byte, k.size); !fcs.Good(k.wide, b) {
			t.Errorf("%s: % x, the sum of no octets, isn't Good", word(k.wide), b)
		}
	}
}

func TestGoodOfWhatIsCutOrLonger(t *testing.T) {
	for _, k := range kinds {
		b := whole(k.wide, []byte("123456789"))
		for n := range len(b) {
			if fcs.Good(k.wide, b[:n]) {
				t.Errorf("%s: the first %d octets of % x are Good", word(k.wide), n, b)
			}
			if n > 0 && fcs.Good(k.wide, b[n:]) {
				t.Errorf("%s: % x without its first %d octets is Good", word(k.wide), b, n)
			}
		}
		for c := range 256 {
			if fcs.Good(k.wide, append(bytes.Clone(b), byte(c))) || fcs.Good(k.wide, append([]byte{byte(c)}, b...)) {
				t.Errorf("%s: % x and one octet more, %02x, are Good", word(k.wide), b, c)
			}
		}
	}
}

func TestGoodOfAnyOctets(t *testing.T) {
	for _, k := range kinds {
		for _, b := range samples() {
			want := false
			if ahead := len(b) - k.size; ahead >= 0 {
				sum := binary.LittleEndian.AppendUint32(nil, ^bitwise(k.turn, k.start, b[:ahead]))
				want = bytes.Equal(b[ahead:], sum[:k.size])
			}
			if got := fcs.Good(k.wide, b); got != want {
				t.Errorf("%s: %d octets are Good: %v, want %v", word(k.wide), len(b), got, want)
			}
		}
	}
}

func TestGoodOfTheOtherKind(t *testing.T) {
	data := []byte("123456789")
	for _, k := range kinds {
		if fcs.Good(!k.wide, whole(k.wide, data)) {
			t.Errorf("%s: is Good as the other kind", word(k.wide))
		}
		back := bytes.Clone(data)
		for i := range k.size {
			back = append(back, fcs.Trailer(k.wide, data)[k.size-1-i])
		}
		if fcs.Good(k.wide, back) {
			t.Errorf("%s: with the highest octet first it is Good", word(k.wide))
		}
	}
}

// P2.3: the register behind data and its trailer.

func TestRegisterBehindATrailer(t *testing.T) {
	for _, k := range kinds {
		for _, data := range samples() {
			if got := fcs.More(k.wide, k.start, whole(k.wide, data)); got != k.behind {
				t.Errorf("%s: behind %d octets and their Trailer: %x", word(k.wide), len(data), got)
			}
		}
	}
}

func TestOneNarrowTrailerOnly(t *testing.T) {
	for _, data := range [][]byte{nil, {0}, []byte("123456789"), some(5, 33)} {
		b := append(bytes.Clone(data), 0, 0)
		want := fcs.Trailer(false, data)
		for n := range 1 << 16 {
			end := b[len(data):]
			end[0], end[1] = byte(n), byte(n>>8)
			is := bytes.Equal(end, want)
			if got := fcs.More(false, fcs.Start(false), b) == 0xf0b8; got != is {
				t.Fatalf("behind %d octets and % x the register is f0b8: %v", len(data), end, got)
			}
			if got := fcs.Good(false, b); got != is {
				t.Fatalf("%d octets and % x are Good: %v", len(data), end, got)
			}
		}
	}
}

func TestOtherWideTrailersAreNone(t *testing.T) {
	data := []byte("123456789")
	b := whole(true, data)
	for at := len(data); at < len(b)-1; at++ {
		for n := 1; n < 1<<16; n++ {
			other := bytes.Clone(b)
			other[at] ^= byte(n)
			other[at+1] ^= byte(n >> 8)
			if fcs.More(true, fcs.Start(true), other) == 0xdebb20e3 || fcs.Good(true, other) {
				t.Fatalf("% x is taken as a Trailer", other[len(data):])
			}
		}
	}
}

// P2.3: bits that are turned.

func TestEachRowOfSixteenTurnedBitsIsTold(t *testing.T) {
	for _, data := range [][]byte{nil, {0x7e}, {0x31, 0x32, 0x33}} {
		b := whole(false, data)
		for from := range 8 * len(b) {
			for pattern := uint32(1); pattern < 1<<16; pattern += 2 {
				if from+16 > 8*len(b) && pattern>>(8*len(b)-from) != 0 {
					break
				}
				if fcs.Good(false, turned(b, from, pattern)) {
					t.Fatalf("% x, turned by %x at bit %d, is Good", b, pattern, from)
				}
			}
		}
	}
}

func TestRowsOfThirtyTwoTurnedBitsAreTold(t *testing.T) {
	patterns := []uint32{0xffffffff, 0xedb88320, 0xdb710641, 0x80000001, 0x04c11db7, 0x82608edb}
	for i := range 32 {
		patterns = append(patterns, 1<<i, 1<<i|1, 1<<i|1<<31, 1<<i-1|1<<31)
	}
	for i := range 200 {
		patterns = append(patterns, binary.LittleEndian.Uint32(some(uint32(i), 4)))
	}
	for _, data := range [][]byte{nil, {0x7e}, []byte("123456789")} {
		b := whole(true, data)
		for from := range 8*len(b) - 31 {
			for _, pattern := range patterns {
				if pattern != 0 && fcs.Good(true, turned(b, from, pattern)) {
					t.Fatalf("% x, turned by %x at bit %d, is Good", b, pattern, from)
				}
			}
		}
	}
}

func TestEachTurnedBitOfALongOneIsTold(t *testing.T) {
	for _, k := range kinds {
		b := whole(k.wide, some(9, 1506))
		for at := range 8 * len(b) {
			if fcs.Good(k.wide, turned(b, at, 1)) {
				t.Fatalf("%s: with bit %d turned it is Good", word(k.wide), at)
			}
		}
	}
}

// A row of the sum's own 17 bits passes in one order of the bits alone: so the
// rows above are turned in the order that the chapter means.
func TestBitsAreTurnedLowestFirst(t *testing.T) {
	if b := whole(false, []byte{1, 2, 3}); !fcs.Good(false, turned(b, 3, 0x10811)) {
		t.Errorf("a row of 17 bits, the sum's own, is told")
	}
}

// K5: what is handed in, and what is answered. K6: the same call answers the
// same.

func TestArgumentsStayAndAnswersAreNew(t *testing.T) {
	for _, k := range kinds {
		given := whole(k.wide, []byte("123456789"))
		room := append(bytes.Clone(given), bytes.Repeat([]byte{0xab}, 32)...)
		before := bytes.Clone(room)
		short := room[:len(given)]
		if fcs.More(k.wide, 5, short) != fcs.More(k.wide, 5, given) || fcs.Sum(k.wide, short) != fcs.Sum(k.wide, given) || !fcs.Good(k.wide, short) {
			t.Errorf("%s: an answer hangs on what lies behind the length", word(k.wide))
		}
		if fcs.Good(k.wide, room[:len(given)-1]) {
			t.Errorf("%s: the last octet is read behind the length", word(k.wide))
		}
		first := fcs.Trailer(k.wide, short)
		want := bytes.Clone(first)
		all := first[:cap(first)]
		for i := range all {
			all[i] ^= 0x55
		}
		if !bytes.Equal(room, before) {
			t.Errorf("%s: what was handed in is changed, or handed out", word(k.wide))
		}
		if again := fcs.Trailer(k.wide, short); !bytes.Equal(again, want) {
			t.Errorf("%s: Trailer = % x, and again % x", word(k.wide), want, again)
		}
	}
}
