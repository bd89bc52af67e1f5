package proto_test

import (
	"bytes"
	"testing"

	"marline/api"
	"marline/proto"
)

// numbers calls f with each number of 16 bits.
func numbers(f func(p uint16)) {
	for n := range 1 << 16 {
		f(uint16(n))
	}
}

// mayBe says in the chapter's words whether a protocol's number may be.
func mayBe(p uint16) bool {
	high, low := p/256, p%256
	return low%2 == 1 && high%2 == 0 && p != 0x00ff
}

// read says in the chapter's words what is read of octets.
func read(b []byte, short bool) (uint16, int, api.Errno) {
	switch {
	case len(b) == 0:
		return 0, 0, api.ErrShort
	case b[0]%2 == 1 && (!short || b[0] == 0xff):
		return 0, 0, api.ErrHead
	case b[0]%2 == 1:
		return uint16(b[0]), 1, api.OK
	case len(b) == 1:
		return 0, 0, api.ErrShort
	case b[1]%2 == 0, b[0] == 0 && b[1] == 0xff:
		return 0, 0, api.ErrHead
	}
	return uint16(b[0])*256 + uint16(b[1]), 2, api.OK
}

// checkGet holds what Get answers against what is wanted.
func checkGet(t *testing.T, b []byte, short bool, p uint16, n int, errno api.Errno) {
	t.Helper()
	gotP, gotN, gotErrno := proto.Get(b, short)
	if gotP != p || gotN != n || gotErrno != errno {
		t.Fatalf("Get(% x, %t) = %04x, %d, %d, want %04x, %d, %d", b, short, gotP, gotN, gotErrno, p, n, errno)
	}
}

// P9.1: Right.

func TestRightOfKnownNumbers(t *testing.T) {
	for _, p := range []uint16{
		api.LCP, api.PAP, api.LQR, api.CHAP, api.IPCP, api.IPV6CP, api.MP, api.IP,
		0x0001, 0x00fd, 0x0201, 0x02ff, 0xfe01, 0xfeff, 0x7eff, 0x8001,
	} {
		if !proto.Right(p) {
			t.Errorf("Right(%04x) = false", p)
		}
	}
}

func TestRightOfNumbersThatMayNotBe(t *testing.T) {
	for _, p := range []uint16{
		0x0000, 0x0002, 0x0020, 0x00fe, 0xc020, 0xfefe, // the low octet is even
		0x0101, 0x0121, 0xc121, 0xff01, 0xff03, 0xffff, 0x7fff, 0x01ff, // the high one is odd
		0x0100, 0xff00, 0xfffe, // both are wrong
		0x00ff,
	} {
		if proto.Right(p) {
			t.Errorf("Right(%04x) = true", p)
		}
	}
}

func TestRightOfEachNumber(t *testing.T) {
	count := 0
	numbers(func(p uint16) {
		if got := proto.Right(p); got != mayBe(p) {
			t.Errorf("Right(%04x) = %t", p, got)
		}
		if proto.Right(p) {
			count++
		}
	})
	if want := 128*128 - 1; count != want {
		t.Errorf("%d numbers may be, want %d", count, want)
	}
}

// P9.1: Short.

func TestShortOfEdges(t *testing.T) {
	for _, x := range []struct {
		p    uint16
		want bool
	}{
		{0, true}, {1, true}, {api.IP, true}, {api.MP, true}, {0xfe, true}, {0xff, true},
		{0x0100, false}, {0x0101, false}, {0x0200, false}, {0x0201, false}, {api.LCP, false},
		{0x8000, false}, {0xff00, false}, {0xffff, false},
	} {
		if got := proto.Short(x.p); got != x.want {
			t.Errorf("Short(%04x) = %t", x.p, got)
		}
	}
}

func TestShortOfEachNumber(t *testing.T) {
	numbers(func(p uint16) {
		if got := proto.Short(p); got != (p < 256) {
			t.Errorf("Short(%04x) = %t", p, got)
		}
	})
}

// P9.1: Group.

func TestGroupOfEdges(t *testing.T) {
	for _, x := range []struct {
		p    uint16
		want int
	}{
		{0, 0}, {api.IP, 0}, {api.MP, 0}, {0x00ff, 0}, {0x3fff, 0},
		{0x4000, 1}, {0x4021, 1}, {0x7fff, 1},
		{0x8000, 2}, {api.IPCP, 2}, {api.IPV6CP, 2}, {0xbfff, 2},
		{0xc000, 3}, {api.LCP, 3}, {api.CHAP, 3}, {0xffff, 3},
	} {
		if got := proto.Group(x.p); got != x.want {
			t.Errorf("Group(%04x) = %d, want %d", x.p, got, x.want)
		}
	}
}

func TestGroupOfEachNumber(t *testing.T) {
	numbers(func(p uint16) {
		if got, want := proto.Group(p), int(p)/0x4000; got != want {
			t.Errorf("Group(%04x) = %d, want %d", p, got, want)
		}
	})
}

// P9.1: Put.

func TestPutOfKnownNumbers(t *testing.T) {
	for _, x := range []struct {
		p     uint16
		short bool
		want  []byte
	}{
		{api.IP, true, []byte{0x21}}, {api.IP, false, []byte{0x00, 0x21}},
		{api.LCP, true, []byte{0xc0, 0x21}}, {api.LCP, false, []byte{0xc0, 0x21}},
		{api.MP, true, []byte{0x3d}}, {api.CHAP, true, []byte{0xc2, 0x23}},
		{0x00fd, true, []byte{0xfd}}, {0x0201, true, []byte{0x02, 0x01}},
		// Numbers that may not be are written, too.
		{0x0000, true, []byte{0x00}}, {0x0000, false, []byte{0x00, 0x00}},
		{0x0020, true, []byte{0x20}}, {0x0020, false, []byte{0x00, 0x20}},
		{0x00ff, true, []byte{0xff}}, {0x00ff, false, []byte{0x00, 0xff}},
		{0x0100, true, []byte{0x01, 0x00}}, {0x0121, true, []byte{0x01, 0x21}},
		{0xffff, true, []byte{0xff, 0xff}}, {0xffff, false, []byte{0xff, 0xff}},
	} {
		if got := proto.Put(x.p, x.short); !bytes.Equal(got, x.want) {
			t.Errorf("Put(%04x, %t) = % x, want % x", x.p, x.short, got, x.want)
		}
	}
}

func TestPutOfEachNumber(t *testing.T) {
	numbers(func(p uint16) {
		long := []byte{byte(p / 256), byte(p % 256)}
		if got := proto.Put(p, false); !bytes.Equal(got, long) {
			t.Errorf("Put(%04x, false) = % x", p, got)
		}
		want := long
		if p < 256 {
			want = long[1:]
		}
		if got := proto.Put(p, true); !bytes.Equal(got, want) {
			t.Errorf("Put(%04x, true) = % x", p, got)
		}
	})
}

// P9.2: Get.

func TestGetOfKnownOctets(t *testing.T) {
	for _, short := range []bool{false, true} {
		checkGet(t, []byte{0xc0, 0x21}, short, api.LCP, 2, api.OK)
		checkGet(t, []byte{0xc0, 0x21, 0x01, 0x02}, short, api.LCP, 2, api.OK)
		checkGet(t, []byte{0x00, 0x21}, short, api.IP, 2, api.OK)
		checkGet(t, []byte{0x00, 0x01}, short, 0x0001, 2, api.OK)
		checkGet(t, []byte{0x00, 0xfd}, short, 0x00fd, 2, api.OK)
		checkGet(t, []byte{0x02, 0xff}, short, 0x02ff, 2, api.OK)
		checkGet(t, []byte{0xfe, 0xff}, short, 0xfeff, 2, api.OK)
	}
	checkGet(t, []byte{0x21}, true, api.IP, 1, api.OK)
	checkGet(t, []byte{0x21, 0x45}, true, api.IP, 1, api.OK)
	checkGet(t, []byte{0x3d, 0x00, 0xff}, true, api.MP, 1, api.OK)
	checkGet(t, []byte{0x01}, true, 0x0001, 1, api.OK)
	checkGet(t, []byte{0xfd}, true, 0x00fd, 1, api.OK)
}

func TestGetOfWrongOctets(t *testing.T) {
	for _, short := range []bool{false, true} {
		checkGet(t, nil, short, 0, 0, api.ErrShort)
		checkGet(t, []byte{}, short, 0, 0, api.ErrShort)
		checkGet(t, []byte{0x00}, short, 0, 0, api.ErrShort)
		checkGet(t, []byte{0xc0}, short, 0, 0, api.ErrShort)
		checkGet(t, []byte{0xfe}, short, 0, 0, api.ErrShort)
		checkGet(t, []byte{0xff}, short, 0, 0, api.ErrHead)
		checkGet(t, []byte{0xff, 0x03, 0xc0, 0x21}, short, 0, 0, api.ErrHead)
		checkGet(t, []byte{0x00, 0x00}, short, 0, 0, api.ErrHead)
		checkGet(t, []byte{0x00, 0x20}, short, 0, 0, api.ErrHead)
		checkGet(t, []byte{0xc0, 0x20, 0x21}, short, 0, 0, api.ErrHead)
		checkGet(t, []byte{0x00, 0xff}, short, 0, 0, api.ErrHead)
		checkGet(t, []byte{0x00, 0xff, 0x21}, short, 0, 0, api.ErrHead)
	}
	// Who may not shorten it finds no odd octet ahead, whatever follows it, or none.
	checkGet(t, []byte{0x21}, false, 0, 0, api.ErrHead)
	checkGet(t, []byte{0x21, 0x21}, false, 0, 0, api.ErrHead)
	checkGet(t, []byte{0x01, 0x00}, false, 0, 0, api.ErrHead)
}

func TestGetOfAllShortRows(t *testing.T) {
	for _, short := range []bool{false, true} {
		for first := range 256 {
			row := []byte{byte(first)}
			p, n, errno := read(row, short)
			checkGet(t, row, short, p, n, errno)
		}
		numbers(func(q uint16) {
			row := []byte{byte(q >> 8), byte(q)}
			p, n, errno := read(row, short)
			checkGet(t, row, short, p, n, errno)
			// What follows a number plays no part.
			for _, more := range [][]byte{{0x00}, {0x21}, {0xff, 0x03, 0x00}} {
				checkGet(t, append(row[:2:2], more...), short, p, n, errno)
			}
		})
	}
}

// P9.3: what is written is read.

func TestWhatIsWrittenIsRead(t *testing.T) {
	numbers(func(p uint16) {
		if !mayBe(p) {
			return
		}
		for _, written := range []bool{false, true} {
			b := proto.Put(p, written)
			checkGet(t, b, true, p, len(b), api.OK)
			checkGet(t, append(b, 0x21, 0x00), true, p, len(b), api.OK)
		}
		b := proto.Put(p, false)
		checkGet(t, b, false, p, 2, api.OK)
	})
}

func TestWhatIsReadMayBe(t *testing.T) {
	for _, short := range []bool{false, true} {
		seen := map[uint16]bool{}
		numbers(func(q uint16) {
			b := []byte{byte(q >> 8), byte(q)}
			p, n, errno := proto.Get(b, short)
			if errno != api.OK {
				return
			}
			seen[p] = true
			if !mayBe(p) || !proto.Right(p) {
				t.Errorf("Get(% x, %t) = %04x, which may not be", b, short, p)
			}
			if n < 1 || n > 2 || n == 1 && !proto.Short(p) {
				t.Errorf("Get(% x, %t) = %04x of %d octets", b, short, p, n)
			}
			if n == 1 && !short {
				t.Errorf("Get(% x, false) = %04x, shortened", b, p)
			}
			if again := proto.Put(p, n == 1); !bytes.Equal(again, b[:n]) {
				t.Errorf("% x was read, and is written % x", b[:n], again)
			}
		})
		if want := 128*128 - 1; len(seen) != want {
			t.Errorf("%d numbers are read, want %d", len(seen), want)
		}
	}
}

func TestWhatMayNotBeIsNotRead(t *testing.T) {
	numbers(func(p uint16) {
		if mayBe(p) {
			return
		}
		for _, short := range []bool{false, true} {
			if got, _, errno := proto.Get(proto.Put(p, false), short); errno == api.OK && got == p {
				t.Errorf("Get(Put(%04x, false), %t) = %04x, which may not be", p, short, got)
			}
		}
		if got, _, errno := proto.Get(proto.Put(p, true), true); errno == api.OK && got == p {
			t.Errorf("Get(Put(%04x, true), true) = %04x, which may not be", p, got)
		}
	})
}

// K5: nothing is changed, kept, or read behind a list's length.

func TestGetLeavesWhatItIsHanded(t *testing.T) {
	room := []byte{0xc0, 0x21, 0x00, 0x3d, 0xff}
	before := bytes.Clone(room)
	for from := range len(room) + 1 {
		for to := from; to <= len(room); to++ {
			proto.Get(room[from:to], false)
			proto.Get(room[from:to], true)
		}
	}
	if !bytes.Equal(room, before) {
		t.Errorf("Get made % x of % x", room, before)
	}
}

func TestGetReadsNoRoom(t *testing.T) {
	room := []byte{0xc0, 0x21}
	for _, short := range []bool{false, true} {
		checkGet(t, room[:0], short, 0, 0, api.ErrShort)
		checkGet(t, room[:1], short, 0, 0, api.ErrShort)
		checkGet(t, room[1:1], short, 0, 0, api.ErrShort)
	}
}

func TestPutGivesNewMemory(t *testing.T) {
	for _, short := range []bool{false, true} {
		for _, p := range []uint16{api.IP, api.LCP, 0x00ff} {
			one := proto.Put(p, short)
			want := bytes.Clone(one)
			other := proto.Put(p, short)
			for i := range one {
				one[i]++
			}
			if !bytes.Equal(other, want) || !bytes.Equal(proto.Put(p, short), want) {
				t.Errorf("Put(%04x, %t) shares memory with an earlier answer", p, short)
			}
			_ = append(one, 1, 2, 3)
			if !bytes.Equal(other, want) {
				t.Errorf("Put(%04x, %t) shares its room with an earlier answer", p, short)
			}
		}
	}
}
