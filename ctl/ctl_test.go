package ctl_test

import (
	"bytes"
	"slices"
	"testing"

	"marline/api"
	"marline/ctl"
)

// packet is a control packet.
type packet struct {
	code, id byte
	data     []byte
}

// some gives n octets that look like chance, but are the same in every run.
func some(seed uint32, n int) []byte {
	out := make([]byte, n)
	for i := range out {
		seed = seed*1664525 + 1013904223
		out[i] = byte(seed >> 24)
	}
	return out
}

// sizes are many numbers of octets that data may have: all small ones, all large
// ones, and those at which the high octet of the length changes.
func sizes() []int {
	var out []int
	for n := range 65532 {
		if low := (n + 4) % 256; n < 600 || n > 65400 || low < 2 || low == 255 {
			out = append(out, n)
		}
	}
	return out
}

// small are all packets of a few codes, identifiers, and short rows of data.
func small() []packet {
	var out []packet
	for _, code := range []byte{0, 1, 4, 255} {
		for _, id := range []byte{0, 1, 4, 255} {
			rows([]byte{0, 1, 4, 5, 255}, 4, func(b []byte) {
				out = append(out, packet{code, id, bytes.Clone(b)})
			})
		}
	}
	return out
}

// packets are packets that can be written, of many lengths and kinds.
func packets() []packet {
	out := []packet{
		{}, {255, 255, nil}, {1, 2, []byte{}}, {9, 1, nil}, {1, 255, []byte{7, 8}},
		{0, 0, make([]byte, 65531)}, {255, 255, bytes.Repeat([]byte{255}, 65531)},
		{1, 1, []byte{1, 1, 0, 4}}, {0, 0, []byte{0, 0, 0, 5, 0}}, {5, 6, []byte{0, 3}},
	}
	for n := range 300 {
		out = append(out, packet{byte(n), byte(n * 7), some(uint32(n), n)})
	}
	for _, n := range []int{507, 508, 1500, 32763, 32764, 65275, 65276, 65530} {
		out = append(out, packet{byte(n), 3, some(uint32(n), n)})
	}
	return out
}

// tails are octets that may stand behind a packet.
func tails() [][]byte {
	return [][]byte{
		{}, {0}, {1}, {255}, {0, 0, 0, 4}, {9, 9, 0, 3}, {1, 2, 255, 255}, make([]byte, 252),
		bytes.Repeat([]byte{255}, 256), some(8, 1500), make([]byte, 65536),
	}
}

// rows calls f with each row of 0 to most octets of those that are told; it may
// not keep them.
func rows(octets []byte, most int, f func(b []byte)) {
	var grow func(b []byte)
	grow = func(b []byte) {
		f(b)
		if len(b) == most {
			return
		}
		for _, c := range octets {
			grow(append(b, c))
		}
	}
	grow(make([]byte, 0, most))
}

// written says in the chapter's words how a packet that can be written is.
func written(p packet) []byte {
	length := len(p.data) + 4
	return slices.Concat([]byte{p.code}, []byte{p.id}, []byte{byte(length / 256), byte(length % 256)}, p.data)
}

// read says in the chapter's words which packet octets begin with, and how many
// stand behind it.
func read(b []byte) (packet, int, api.Errno) {
	if len(b) == 0 || len(b) == 1 || len(b) == 2 || len(b) == 3 {
		return packet{}, 0, api.ErrShort
	}
	length := 256*int(b[2]) + int(b[3])
	if length == 0 || length == 1 || length == 2 || length == 3 {
		return packet{}, 0, api.ErrForm
	}
	pad := len(b) - length
	if pad < 0 {
		return packet{}, 0, api.ErrShort
	}
	return packet{b[0], b[1], b[4 : len(b)-pad]}, pad, api.OK
}

// alike tells whether two packets are the same.
func alike(a, b packet) bool {
	return a.code == b.code && a.id == b.id && bytes.Equal(a.data, b.data)
}

// brief gives at most some 20 octets, so that what fails can be read.
func brief(b []byte) []byte { return b[:min(len(b), 20)] }

// checkPut holds what Put answers against what is wanted.
func checkPut(t *testing.T, p packet, want []byte) {
	t.Helper()
	got, errno := ctl.Put(p.code, p.id, p.data)
	if errno != api.OK || !bytes.Equal(got, want) {
		t.Errorf("Put(%d, %d, %d octets, % x..) = %d octets, % x.., %d, want %d, % x..",
			p.code, p.id, len(p.data), brief(p.data), len(got), brief(got), errno, len(want), brief(want))
	}
}

// checkLong wants that Put finds data that has too many octets, and (K3) answers
// none.
func checkLong(t *testing.T, p packet) {
	t.Helper()
	if got, errno := ctl.Put(p.code, p.id, p.data); errno != api.ErrLong || len(got) != 0 {
		t.Errorf("Put of %d octets = %d octets, %d, want none, %d", len(p.data), len(got), errno, api.ErrLong)
	}
}

// checkGet holds what Get and Pad answer against what is wanted.
func checkGet(t *testing.T, b []byte, want packet, pad int, code api.Errno) {
	t.Helper()
	c, id, data, errno := ctl.Get(b)
	if errno != code || !alike(packet{c, id, data}, want) {
		t.Errorf("Get(%d octets, % x..) = %d, %d, %d octets, % x.., %d, want %d, %d, %d octets, % x.., %d", len(b), brief(b),
			c, id, len(data), brief(data), errno, want.code, want.id, len(want.data), brief(want.data), code)
	}
	if n := ctl.Pad(b); n != pad {
		t.Errorf("Pad(%d octets, % x..) = %d, want %d", len(b), brief(b), n, pad)
	}
}

// checkWrong wants that Get answers an error, and (K3) nothing else, and Pad 0.
func checkWrong(t *testing.T, b []byte, code api.Errno) {
	t.Helper()
	checkGet(t, b, packet{}, 0, code)
}

// checkModel holds what Get and Pad answer against the chapter's words.
func checkModel(t *testing.T, b []byte) {
	t.Helper()
	want, pad, errno := read(b)
	checkGet(t, b, want, pad, errno)
}

// P13.1: Put.

func TestPutOfKnownPackets(t *testing.T) {
	for _, x := range []struct {
		p    packet
		want []byte
	}{
		{packet{9, 1, nil}, []byte{0x09, 0x01, 0x00, 0x04}},
		{packet{9, 1, []byte{}}, []byte{0x09, 0x01, 0x00, 0x04}},
		{packet{}, []byte{0x00, 0x00, 0x00, 0x04}},
		{packet{255, 254, nil}, []byte{0xff, 0xfe, 0x00, 0x04}},
		{packet{1, 255, []byte{7, 8}}, []byte{0x01, 0xff, 0x00, 0x06, 0x07, 0x08}},
		{packet{1, 2, []byte{0}}, []byte{0x01, 0x02, 0x00, 0x05, 0x00}},
		{packet{5, 6, []byte{5, 6, 0, 4}}, []byte{0x05, 0x06, 0x00, 0x08, 0x05, 0x06, 0x00, 0x04}},
	} {
		checkPut(t, x.p, x.want)
	}
}

func TestPutOfKnownLengths(t *testing.T) {
	for _, x := range []struct {
		n         int
		high, low byte
	}{
		{250, 0, 254}, {251, 0, 255}, {252, 1, 0}, {253, 1, 1}, {507, 1, 255}, {508, 2, 0}, {1496, 5, 0xdc},
		{32763, 127, 255}, {32764, 128, 0}, {65275, 254, 255}, {65276, 255, 0}, {65530, 255, 254}, {65531, 255, 255},
	} {
		data := some(2, x.n)
		checkPut(t, packet{1, 2, data}, slices.Concat([]byte{1, 2, x.high, x.low}, data))
	}
}

func TestPutOfEachCodeAndIdentifier(t *testing.T) {
	for code := range 256 {
		for id := range 256 {
			checkPut(t, packet{byte(code), byte(id), []byte{7}}, []byte{byte(code), byte(id), 0, 5, 7})
		}
	}
}

func TestPutOfManyPackets(t *testing.T) {
	for _, n := range sizes() {
		p := packet{byte(n), byte(n >> 8), some(uint32(n), n)}
		checkPut(t, p, written(p))
	}
	for _, p := range append(packets(), small()...) {
		checkPut(t, p, written(p))
	}
}

func TestPutTellsDataThatIsLong(t *testing.T) {
	all := make([]byte, 1<<20)
	checkPut(t, packet{1, 2, all[:65531]}, slices.Concat([]byte{1, 2, 255, 255}, all[:65531]))
	for n := 65532; n < 66200; n++ {
		checkLong(t, packet{1, 2, all[:n]})
	}
	for _, n := range []int{131067, 131068, 131071, 131072, 1<<20 - 4, 1 << 20} {
		checkLong(t, packet{0, 0, all[:n]})
		checkLong(t, packet{255, 255, all[:n]})
	}
}

// P13.1: Get, Pad.

func TestGetOfKnownOctets(t *testing.T) {
	for _, x := range []struct {
		b    []byte
		want packet
		pad  int
	}{
		{[]byte{9, 1, 0, 4}, packet{9, 1, nil}, 0},
		{[]byte{0, 0, 0, 4}, packet{}, 0},
		{[]byte{0, 0, 0, 4, 0}, packet{}, 1},
		{[]byte{255, 254, 0, 4}, packet{255, 254, nil}, 0},
		{[]byte{1, 2, 0, 5, 9}, packet{1, 2, []byte{9}}, 0},
		{[]byte{1, 2, 0, 5, 9, 8, 7}, packet{1, 2, []byte{9}}, 2},
		{[]byte{1, 2, 0, 4, 9, 8, 7}, packet{1, 2, nil}, 3},
		{[]byte{1, 2, 0, 8, 3, 4, 0, 4, 5, 6, 0, 4}, packet{1, 2, []byte{3, 4, 0, 4}}, 4},
	} {
		checkGet(t, x.b, x.want, x.pad, api.OK)
	}
}

func TestGetOfWrongOctets(t *testing.T) {
	for _, x := range []struct {
		b    []byte
		code api.Errno
	}{
		{nil, api.ErrShort},
		{[]byte{}, api.ErrShort},
		{[]byte{1}, api.ErrShort},
		{[]byte{1, 2}, api.ErrShort},
		{[]byte{1, 2, 0}, api.ErrShort},
		{[]byte{1, 2, 255}, api.ErrShort},
		{[]byte{1, 2, 0, 0}, api.ErrForm},
		{[]byte{1, 2, 0, 1}, api.ErrForm},
		{[]byte{1, 2, 0, 2}, api.ErrForm},
		{[]byte{1, 2, 0, 3}, api.ErrForm},
		{[]byte{1, 2, 0, 3, 5}, api.ErrForm},
		{[]byte{1, 2, 0, 0, 0, 4}, api.ErrForm},
		{[]byte{1, 2, 0, 5}, api.ErrShort},
		{[]byte{1, 2, 0, 6, 5}, api.ErrShort},
		{[]byte{1, 2, 1, 0, 5}, api.ErrShort},
		{[]byte{1, 2, 1, 4}, api.ErrShort},
		{[]byte{1, 2, 4, 0, 5}, api.ErrShort},
		{[]byte{1, 2, 255, 255, 5}, api.ErrShort},
	} {
		checkWrong(t, x.b, x.code)
	}
}

func TestGetOfEachLengthOfFewOctets(t *testing.T) {
	for _, n := range []int{4, 5, 6, 254, 255, 256, 257, 300} {
		b := some(6, n)
		for length := range 65536 {
			b[2], b[3] = byte(length>>8), byte(length)
			switch {
			case length < 4:
				checkWrong(t, b, api.ErrForm)
			case n < length:
				checkWrong(t, b, api.ErrShort)
			default:
				checkGet(t, b, packet{b[0], b[1], b[4:length]}, n-length, api.OK)
			}
		}
	}
}

func TestGetOfManyLengthsOfManyOctets(t *testing.T) {
	all := some(6, 65535+300)
	for _, size := range sizes() {
		length := size + 4
		all[2], all[3] = byte(length>>8), byte(length)
		for _, n := range []int{length - 1, length, length + 1, length + 256, len(all)} {
			b := all[:n]
			if n < length {
				checkWrong(t, b, api.ErrShort)
				continue
			}
			checkGet(t, b, packet{all[0], all[1], all[4:length]}, n-length, api.OK)
		}
	}
}

func TestGetOfAllShortRows(t *testing.T) {
	octets := make([]byte, 256)
	for c := range octets {
		octets[c] = byte(c)
	}
	check := func(b []byte) { checkModel(t, b) }
	rows(octets, 2, check)
	rows([]byte{0, 1, 3, 4, 5, 6, 255}, 6, check)
	rows([]byte{0, 4, 7}, 10, check)
	for c := range 256 {
		for d := range 256 {
			checkModel(t, []byte{1, 2, byte(c), byte(d)})
			checkModel(t, []byte{byte(c), byte(d), 0, 6, 7, 8, 9})
		}
	}
}

func TestGetOfManyRows(t *testing.T) {
	for n := range 3000 {
		b := some(uint32(n), n%600)
		if len(b) > 2 {
			// High octets that are small let packets end within the row.
			b[2] %= 3
		}
		checkModel(t, b)
	}
}

func TestGetOfPacketsThatAreCutOff(t *testing.T) {
	for _, p := range packets()[7:200] {
		b := written(p)
		for n := range len(b) {
			checkWrong(t, b[:n], api.ErrShort)
		}
		checkGet(t, b, p, 0, api.OK)
	}
	b := written(packet{1, 2, some(3, 65531)})
	for _, n := range []int{3, 4, 5, 254, 255, 256, 65531, 65533, 65534} {
		checkWrong(t, b[:n], api.ErrShort)
	}
}

// P13.2: what is written, and read again.

func TestWhatIsWrittenIsRead(t *testing.T) {
	for _, n := range sizes() {
		p := packet{byte(n), byte(n >> 8), some(uint32(n), n)}
		b, _ := ctl.Put(p.code, p.id, p.data)
		checkGet(t, b, p, 0, api.OK)
	}
	for _, p := range append(packets(), small()...) {
		b, errno := ctl.Put(p.code, p.id, p.data)
		if errno != api.OK {
			t.Errorf("Put of %d octets: %d", len(p.data), errno)
		}
		checkGet(t, b, p, 0, api.OK)
	}
}

func TestWhateverStandsBehindCountsForNothing(t *testing.T) {
	for _, p := range packets() {
		b, _ := ctl.Put(p.code, p.id, p.data)
		for _, tail := range tails() {
			checkGet(t, slices.Concat(b, tail), p, len(tail), api.OK)
		}
		checkGet(t, slices.Concat(b, b), p, len(b), api.OK)
	}
	for _, p := range small() {
		b, _ := ctl.Put(p.code, p.id, p.data)
		rows([]byte{0, 4, 255}, 3, func(tail []byte) {
			checkGet(t, slices.Concat(b, tail), p, len(tail), api.OK)
		})
	}
}

func TestWhatIsReadHasNoOtherWriting(t *testing.T) {
	rows([]byte{0, 1, 4, 5, 6, 255}, 7, func(b []byte) {
		code, id, data, errno := ctl.Get(b)
		if errno != api.OK {
			return
		}
		again, errno := ctl.Put(code, id, data)
		if errno != api.OK || !bytes.Equal(again, b[:len(b)-ctl.Pad(b)]) {
			t.Errorf("% x is read as %d, %d, % x, and written as % x, %d", b, code, id, data, again, errno)
		}
	})
}

func TestUnlikePacketsDiffer(t *testing.T) {
	seen := map[string]packet{}
	for _, p := range small() {
		b, _ := ctl.Put(p.code, p.id, p.data)
		if other, ok := seen[string(b)]; ok {
			t.Errorf("%v and %v are both written as % x", p, other, b)
		}
		seen[string(b)] = p
	}
}

// K5: nothing is changed, kept, or read behind a list's length.

// withRoom gives octets in a memory that has more behind them.
func withRoom(b []byte) []byte {
	return slices.Concat(b, bytes.Repeat([]byte{4}, 20), bytes.Repeat([]byte{0xa5}, 40))[:len(b)]
}

// spoil overwrites octets, and what lies behind them in their memory.
func spoil(b []byte) {
	b = b[:cap(b)]
	for i := range b {
		b[i] ^= 0xa5
	}
}

func TestNoRoomIsReadNorWritten(t *testing.T) {
	for _, p := range packets() {
		data, b := withRoom(p.data), withRoom(written(p))
		wantData, wantOctets := bytes.Clone(data[:cap(data)]), bytes.Clone(b[:cap(b)])
		checkPut(t, packet{p.code, p.id, data}, written(p))
		checkGet(t, b, p, 0, api.OK)
		// What is missing lies in the room.
		checkWrong(t, b[:len(b)-1], api.ErrShort)
		checkWrong(t, b[:4-1], api.ErrShort)
		if !bytes.Equal(data[:cap(data)], wantData) || !bytes.Equal(b[:cap(b)], wantOctets) {
			t.Errorf("what was handed in of a packet of %d octets was changed", len(p.data))
		}
	}
	checkWrong(t, withRoom([]byte{1, 2, 0, 5}), api.ErrShort)
	checkWrong(t, withRoom(nil), api.ErrShort)
}

func TestAnswersAreNewMemory(t *testing.T) {
	for _, p := range packets() {
		data, octets := bytes.Clone(p.data), slices.Concat(written(p), []byte{1, 2, 3})
		before := bytes.Clone(octets)
		b, _ := ctl.Put(p.code, p.id, data)
		spoil(b)
		_, _, got, _ := ctl.Get(octets)
		spoil(got)
		if !bytes.Equal(data, p.data) || !bytes.Equal(octets, before) {
			t.Errorf("answers of a packet of %d octets share memory with what was handed in", len(p.data))
		}
		checkPut(t, packet{p.code, p.id, data}, written(p))
		checkGet(t, octets, p, 3, api.OK)
	}
}

func TestNothingIsKept(t *testing.T) {
	for _, p := range packets() {
		data, octets := bytes.Clone(p.data), written(p)
		b, _ := ctl.Put(p.code, p.id, data)
		_, _, got, _ := ctl.Get(octets)
		spoil(data)
		spoil(octets)
		if !bytes.Equal(b, written(p)) || !bytes.Equal(got, p.data) {
			t.Errorf("answers of a packet of %d octets changed with what was handed in", len(p.data))
		}
	}
}

func TestNoRoomIsHandedOut(t *testing.T) {
	secret := bytes.Repeat([]byte{0xa5}, 40)
	for n := range 60 {
		data := slices.Concat(make([]byte, n), secret)[:n]
		b, _ := ctl.Put(1, 2, data)
		octets := slices.Concat(written(packet{1, 2, data}), secret)
		_, _, exact, _ := ctl.Get(octets[:n+4])
		_, _, padded, _ := ctl.Get(octets)
		for _, out := range [][]byte{b, exact, padded} {
			if bytes.Contains(out[len(out):cap(out)], []byte{0xa5}) {
				t.Errorf("% x has room that was handed in", out)
			}
		}
	}
}
