package head_test

import (
	"bytes"
	"math"
	"slices"
	"testing"

	"marline/api"
	"marline/head"
)

// shortening gives a config of each kind that headers hang on.
func shortening() []api.Config {
	return []api.Config{{}, {ACFC: true}, {PFC: true}, {ACFC: true, PFC: true}}
}

// alike gives configs whose headers are those of c, as they differ from it only
// in what no header hangs on.
func alike(c api.Config) []api.Config {
	var out []api.Config
	for n := range 4 {
		for _, mru := range []int{64, 1500, 65535, 0, -1, math.MaxInt, math.MinInt} {
			for _, m := range []uint32{0, 8, 0xffffffff} {
				out = append(out, api.Config{
					Sync: n&1 != 0, Wide: n&2 != 0, ACFC: c.ACFC, PFC: c.PFC,
					Send: m, Recv: ^m, MRU: mru,
				})
			}
		}
	}
	return out
}

// some are numbers that may be, of all kinds, and at all edges.
func some() []uint16 {
	return []uint16{
		api.LCP, api.PAP, api.LQR, api.CHAP, api.IPCP, api.IPV6CP, api.MP, api.IP,
		0x0001, 0x0003, 0x00fd, 0x0201, 0x02ff, 0x7eff, 0xc01f, 0xc0ff, 0xc221, 0xfe03, 0xfeff,
	}
}

// never are numbers that may not be.
func never() []uint16 {
	return []uint16{
		0x0000, 0x0020, 0x00fe, 0x00ff, 0x0100, 0x0121, 0x01ff,
		0xc020, 0xc121, 0xfefe, 0xff00, 0xff03, 0xfffe, 0xffff,
	}
}

// mayBe says in the words of layer 9 whether a protocol's number may be.
func mayBe(p uint16) bool {
	high, low := p/256, p%256
	return low%2 == 1 && high%2 == 0 && p != 0x00ff
}

// written says in the chapter's words what a config's header is.
func written(c api.Config, p uint16) []byte {
	var out []byte
	if !c.ACFC || p == 0xc021 {
		out = append(out, 0xff, 0x03)
	}
	if c.PFC && p < 256 && p != 0xc021 {
		return append(out, byte(p%256))
	}
	return append(out, byte(p/256), byte(p%256))
}

// read says in the chapter's words which header octets begin with.
func read(c api.Config, b []byte) (uint16, int, api.Errno) {
	n := 0
	if len(b) >= 2 && b[0] == 0xff && b[1] == 0x03 {
		n = 2
	} else if !c.ACFC {
		return 0, 0, api.ErrHead
	}
	switch rest := b[n:]; {
	case len(rest) >= 1 && c.PFC && rest[0]%2 == 1 && rest[0] != 0xff:
		return uint16(rest[0]), n + 1, api.OK
	case len(rest) >= 2 && mayBe(uint16(rest[0])*256+uint16(rest[1])):
		return uint16(rest[0])*256 + uint16(rest[1]), n + 2, api.OK
	}
	return 0, 0, api.ErrHead
}

// numbers calls f with each number of 16 bits.
func numbers(f func(p uint16)) {
	for n := range 1 << 16 {
		f(uint16(n))
	}
}

// rows calls f with each row of 0 to most octets of those that are told; it may
// not keep them.
func rows(octets []byte, most int, f func(b []byte)) {
	var grow func(b []byte)
	grow = func(b []byte) {
		f(b)
		if len(b) == most {
			return
		}
		for _, c := range octets {
			grow(append(b, c))
		}
	}
	grow(make([]byte, 0, most))
}

// every gives all 256 octets.
func every() []byte {
	var out []byte
	for n := range 256 {
		out = append(out, byte(n))
	}
	return out
}

// checkGet holds what Get answers against what is wanted.
func checkGet(t *testing.T, c api.Config, b []byte, p uint16, n int, errno api.Errno) {
	t.Helper()
	gotP, gotN, gotErrno := head.Get(c, b)
	if gotP != p || gotN != n || gotErrno != errno {
		t.Fatalf("Get(%+v, % x) = %04x, %d, %d, want %04x, %d, %d", c, b, gotP, gotN, gotErrno, p, n, errno)
	}
}

// checkNone wants that Get finds no header.
func checkNone(t *testing.T, c api.Config, b []byte) {
	t.Helper()
	checkGet(t, c, b, 0, 0, api.ErrHead)
}

// same tells whether two lists of octets are the same.
func same(a, b [][]byte) bool { return slices.EqualFunc(a, b, bytes.Equal) }

// P10.1: Put.

func TestPutOfKnownNumbers(t *testing.T) {
	kinds := shortening()
	none, acfc, pfc, both := kinds[0], kinds[1], kinds[2], kinds[3]
	for _, x := range []struct {
		c    api.Config
		p    uint16
		want []byte
	}{
		{none, api.IP, []byte{0xff, 0x03, 0x00, 0x21}},
		{acfc, api.IP, []byte{0x00, 0x21}},
		{pfc, api.IP, []byte{0xff, 0x03, 0x21}},
		{both, api.IP, []byte{0x21}},
		{none, api.LCP, []byte{0xff, 0x03, 0xc0, 0x21}},
		{acfc, api.LCP, []byte{0xff, 0x03, 0xc0, 0x21}},
		{pfc, api.LCP, []byte{0xff, 0x03, 0xc0, 0x21}},
		{both, api.LCP, []byte{0xff, 0x03, 0xc0, 0x21}},
		// Others of its group are shortened.
		{none, api.PAP, []byte{0xff, 0x03, 0xc0, 0x23}},
		{both, api.PAP, []byte{0xc0, 0x23}},
		{both, 0xc01f, []byte{0xc0, 0x1f}},
		{both, api.CHAP, []byte{0xc2, 0x23}},
		{pfc, api.IPCP, []byte{0xff, 0x03, 0x80, 0x21}},
		{both, api.MP, []byte{0x3d}},
		{both, 0x0201, []byte{0x02, 0x01}},
		// Numbers that may not be are written, too.
		{none, 0x0000, []byte{0xff, 0x03, 0x00, 0x00}},
		{both, 0x0000, []byte{0x00}},
		{both, 0x00ff, []byte{0xff}},
		{acfc, 0x00ff, []byte{0x00, 0xff}},
		{both, 0x0100, []byte{0x01, 0x00}},
		{both, 0xff03, []byte{0xff, 0x03}},
		{pfc, 0xffff, []byte{0xff, 0x03, 0xff, 0xff}},
	} {
		if got := head.Put(x.c, x.p); !bytes.Equal(got, x.want) {
			t.Errorf("Put(%+v, %04x) = % x, want % x", x.c, x.p, got, x.want)
		}
	}
}

func TestPutOfEachNumber(t *testing.T) {
	for _, c := range shortening() {
		numbers(func(p uint16) {
			if got, want := head.Put(c, p), written(c, p); !bytes.Equal(got, want) {
				t.Errorf("Put(%+v, %04x) = % x, want % x", c, p, got, want)
			}
		})
	}
}

// P10.1: Get.

func TestGetOfKnownOctets(t *testing.T) {
	kinds := shortening()
	none, acfc, pfc, both := kinds[0], kinds[1], kinds[2], kinds[3]
	for _, c := range kinds {
		checkGet(t, c, []byte{0xff, 0x03, 0x00, 0x21}, api.IP, 4, api.OK)
		checkGet(t, c, []byte{0xff, 0x03, 0xc0, 0x21}, api.LCP, 4, api.OK)
		checkGet(t, c, []byte{0xff, 0x03, 0xc0, 0x21, 0xff, 0x03}, api.LCP, 4, api.OK)
		checkGet(t, c, []byte{0xff, 0x03, 0xfe, 0xff, 0x00}, 0xfeff, 4, api.OK)
	}
	for _, c := range []api.Config{acfc, both} {
		checkGet(t, c, []byte{0x00, 0x21, 0x45}, api.IP, 2, api.OK)
		checkGet(t, c, []byte{0x80, 0x21}, api.IPCP, 2, api.OK)
		// It is read without an address, too, though it isn't written so.
		checkGet(t, c, []byte{0xc0, 0x21, 0x05}, api.LCP, 2, api.OK)
	}
	for _, c := range []api.Config{pfc, both} {
		checkGet(t, c, []byte{0xff, 0x03, 0x21}, api.IP, 3, api.OK)
		checkGet(t, c, []byte{0xff, 0x03, 0x21, 0x00}, api.IP, 3, api.OK)
		checkGet(t, c, []byte{0xff, 0x03, 0x03}, 0x0003, 3, api.OK)
	}
	checkGet(t, both, []byte{0x21}, api.IP, 1, api.OK)
	checkGet(t, both, []byte{0x21, 0x45, 0x00}, api.IP, 1, api.OK)
	checkGet(t, both, []byte{0x03, 0xff}, 0x0003, 1, api.OK)
	checkNone(t, none, []byte{0xff, 0x03, 0x21, 0x45})
	checkNone(t, acfc, []byte{0x21, 0x45})
}

func TestGetOfWrongOctets(t *testing.T) {
	for _, c := range shortening() {
		for _, b := range [][]byte{
			nil, {},
			{0x00}, {0xc0}, {0xff}, // a number, or an address, that is cut off
			{0xff, 0x03}, {0xff, 0x03, 0x00}, {0xff, 0x03, 0xc0},
			{0xff, 0x04, 0x00, 0x21}, {0xff, 0x21}, {0xff, 0x00, 0x21}, {0xff, 0xff, 0x03, 0x00, 0x21}, // no control octet
			{0xff, 0x03, 0xff}, {0xff, 0x03, 0xff, 0x03}, {0xff, 0x03, 0xff, 0x03, 0x00, 0x21}, // twice
			{0xff, 0x03, 0x00, 0x20}, {0xff, 0x03, 0xc0, 0x20}, {0xff, 0x03, 0x00, 0xff}, // numbers that may not be
			{0x00, 0x20}, {0x00, 0xff}, {0x00, 0xff, 0x03, 0x00, 0x21}, {0xc0, 0x20, 0x21},
		} {
			checkNone(t, c, b)
		}
	}
}

func TestGetWithoutAnAddressThatIsWanted(t *testing.T) {
	for _, c := range []api.Config{{}, {PFC: true}} {
		for _, b := range [][]byte{
			{0x21}, {0x00, 0x21}, {0xc0, 0x21}, {0x03, 0xff, 0x00, 0x21}, {0xfe, 0x03, 0x00, 0x21}, {0x03, 0x00, 0x21},
		} {
			checkNone(t, c, b)
		}
	}
}

func TestGetOfAllShortRows(t *testing.T) {
	for _, c := range shortening() {
		rows(every(), 2, func(b []byte) {
			p, n, errno := read(c, b)
			checkGet(t, c, b, p, n, errno)
			led := append([]byte{0xff, 0x03}, b...)
			p, n, errno = read(c, led)
			checkGet(t, c, led, p, n, errno)
		})
	}
}

func TestGetOfLongerRows(t *testing.T) {
	octets := []byte{0x00, 0x01, 0x03, 0x04, 0x20, 0x21, 0x7e, 0x80, 0xc0, 0xc1, 0xfd, 0xfe, 0xff}
	for _, c := range shortening() {
		rows(octets, 5, func(b []byte) {
			p, n, errno := read(c, b)
			checkGet(t, c, b, p, n, errno)
		})
	}
}

func TestWhatFollowsAHeaderPlaysNoPart(t *testing.T) {
	for _, c := range shortening() {
		for _, p := range some() {
			for _, b := range head.All(c, p) {
				for _, more := range [][]byte{{0x00}, {0x21}, {0xff, 0x03, 0x00, 0x21}, make([]byte, 70000)} {
					checkGet(t, c, slices.Concat(b, more), p, len(b), api.OK)
				}
			}
		}
	}
}

// P10.1, P10.2: nothing else of a config plays a part.

func TestOtherFieldsPlayNoPart(t *testing.T) {
	for _, c := range shortening() {
		for _, other := range alike(c) {
			for _, p := range append(some(), never()...) {
				if got, want := head.Put(other, p), head.Put(c, p); !bytes.Equal(got, want) {
					t.Errorf("Put(%+v, %04x) = % x, want % x", other, p, got, want)
				}
				if got, want := head.All(other, p), head.All(c, p); !same(got, want) {
					t.Errorf("All(%+v, %04x) = % x, want % x", other, p, got, want)
				}
			}
			for _, b := range [][]byte{{0xff, 0x03, 0x00, 0x21}, {0xff, 0x03, 0x21}, {0x00, 0x21}, {0x21}, {0xff}, nil} {
				p, n, errno := head.Get(c, b)
				checkGet(t, other, b, p, n, errno)
			}
		}
	}
}

// P10.2: All.

func TestAllOfKnownNumbers(t *testing.T) {
	kinds := shortening()
	none, acfc, pfc, both := kinds[0], kinds[1], kinds[2], kinds[3]
	for _, x := range []struct {
		c    api.Config
		p    uint16
		want [][]byte
	}{
		{none, api.IP, [][]byte{{0xff, 0x03, 0x00, 0x21}}},
		{acfc, api.IP, [][]byte{{0x00, 0x21}, {0xff, 0x03, 0x00, 0x21}}},
		{pfc, api.IP, [][]byte{{0xff, 0x03, 0x21}, {0xff, 0x03, 0x00, 0x21}}},
		{both, api.IP, [][]byte{{0x21}, {0x00, 0x21}, {0xff, 0x03, 0x21}, {0xff, 0x03, 0x00, 0x21}}},
		{both, 0x00fd, [][]byte{{0xfd}, {0x00, 0xfd}, {0xff, 0x03, 0xfd}, {0xff, 0x03, 0x00, 0xfd}}},
		{none, api.LCP, [][]byte{{0xff, 0x03, 0xc0, 0x21}}},
		{acfc, api.LCP, [][]byte{{0xc0, 0x21}, {0xff, 0x03, 0xc0, 0x21}}},
		{pfc, api.LCP, [][]byte{{0xff, 0x03, 0xc0, 0x21}}},
		{both, api.LCP, [][]byte{{0xc0, 0x21}, {0xff, 0x03, 0xc0, 0x21}}},
		{pfc, 0x0201, [][]byte{{0xff, 0x03, 0x02, 0x01}}},
		{both, 0x0201, [][]byte{{0x02, 0x01}, {0xff, 0x03, 0x02, 0x01}}},
	} {
		if got := head.All(x.c, x.p); !same(got, x.want) {
			t.Errorf("All(%+v, %04x) = % x, want % x", x.c, x.p, got, x.want)
		}
	}
}

// TestAllIsAllThatIsRead gathers the headers of each number from all rows that
// can be one: a row that is longer is one only behind an address.
func TestAllIsAllThatIsRead(t *testing.T) {
	for _, c := range shortening() {
		found := map[uint16][][]byte{}
		gather := func(b []byte) {
			if p, n, errno := head.Get(c, b); errno == api.OK && n == len(b) {
				found[p] = append(found[p], bytes.Clone(b))
			}
		}
		rows(every(), 2, gather)
		rows(every(), 2, func(b []byte) { gather(append([]byte{0xff, 0x03}, b...)) })
		numbers(func(p uint16) {
			want := found[p]
			slices.SortFunc(want, func(a, b []byte) int {
				if len(a) != len(b) {
					return len(a) - len(b)
				}
				return bytes.Compare(a, b)
			})
			want = slices.CompactFunc(want, bytes.Equal)
			if got := head.All(c, p); !same(got, want) {
				t.Errorf("All(%+v, %04x) = % x, want % x", c, p, got, want)
			}
		})
	}
}

func TestLongRowsAreNoHeaderWithoutAnAddress(t *testing.T) {
	octets := []byte{0x00, 0x01, 0x03, 0x20, 0x21, 0x7e, 0x80, 0xc0, 0xc1, 0xfe, 0xff}
	for _, c := range shortening() {
		rows(octets, 5, func(b []byte) {
			_, n, errno := head.Get(c, b)
			if errno != api.OK || n != len(b) || n < 3 {
				return
			}
			if n > 4 || b[0] != 0xff || b[1] != 0x03 {
				t.Errorf("Get(%+v, % x) has %d octets", c, b, n)
			}
		})
	}
}

func TestAllOfNumbersThatMayNotBe(t *testing.T) {
	for _, c := range shortening() {
		numbers(func(p uint16) {
			if got := head.All(c, p); !mayBe(p) && len(got) != 0 {
				t.Errorf("All(%+v, %04x) = % x, of a number that may not be", c, p, got)
			}
		})
	}
}

// P10.3: Get of Put, and Put's place among All.

func TestWhatIsWrittenIsRead(t *testing.T) {
	for _, c := range shortening() {
		numbers(func(p uint16) {
			if !mayBe(p) {
				return
			}
			b := head.Put(c, p)
			checkGet(t, c, b, p, len(b), api.OK)
			checkGet(t, c, append(b, 0x21, 0x00), p, len(b), api.OK)
			// Who may be sent shortened headers reads the others, too.
			checkGet(t, api.Config{ACFC: true, PFC: true}, b, p, len(b), api.OK)
		})
	}
}

func TestPutIsFirstOfAll(t *testing.T) {
	for _, c := range shortening() {
		numbers(func(p uint16) {
			if !mayBe(p) {
				return
			}
			all := head.All(c, p)
			if len(all) == 0 {
				t.Fatalf("All(%+v, %04x) is empty", c, p)
			}
			want := all[0]
			if p == api.LCP {
				want = all[len(all)-1]
			}
			if got := head.Put(c, p); !bytes.Equal(got, want) {
				t.Errorf("Put(%+v, %04x) = % x, want % x", c, p, got, want)
			}
		})
	}
}

func TestHeadersOfUnlikeNumbersDiffer(t *testing.T) {
	for _, c := range shortening() {
		seen := map[string]uint16{}
		numbers(func(p uint16) {
			for _, b := range head.All(c, p) {
				if q, ok := seen[string(b)]; ok {
					t.Errorf("% x is of %04x and of %04x", b, q, p)
				}
				seen[string(b)] = p
			}
		})
	}
}

// K5: nothing is changed, kept, or read behind a list's length.

func TestGetLeavesWhatItIsHanded(t *testing.T) {
	room := []byte{0xff, 0x03, 0x00, 0x21, 0xff, 0x03, 0xc0, 0x21}
	before := bytes.Clone(room)
	for _, c := range shortening() {
		for from := range len(room) + 1 {
			for to := from; to <= len(room); to++ {
				head.Get(c, room[from:to])
			}
		}
	}
	if !bytes.Equal(room, before) {
		t.Errorf("Get made % x of % x", room, before)
	}
}

func TestGetReadsNoRoom(t *testing.T) {
	room := []byte{0xff, 0x03, 0xc0, 0x21}
	for _, c := range shortening() {
		for to := range len(room) {
			checkNone(t, c, room[:to])
		}
		checkNone(t, c, room[2:2])
		checkNone(t, c, room[2:3])
	}
}

// spoil overwrites octets, and what lies behind them in their memory.
func spoil(b []byte) {
	b = b[:cap(b)]
	for i := range b {
		b[i] ^= 0xa5
	}
}

func TestPutGivesNewMemory(t *testing.T) {
	for _, c := range shortening() {
		for _, p := range append(some(), never()...) {
			one, other := head.Put(c, p), head.Put(c, p)
			spoil(one)
			if want := written(c, p); !bytes.Equal(other, want) || !bytes.Equal(head.Put(c, p), want) {
				t.Errorf("Put(%+v, %04x) shares memory with an earlier answer", c, p)
			}
		}
	}
}

func TestAllGivesNewMemory(t *testing.T) {
	for _, c := range shortening() {
		for _, p := range some() {
			want := head.All(c, p)
			for i := range want {
				one, other := head.All(c, p), head.All(c, p)
				spoil(one[i])
				for j := range one {
					if j != i && !bytes.Equal(one[j], want[j]) {
						t.Errorf("All(%+v, %04x): lists %d and %d share memory", c, p, i, j)
					}
				}
				one[i] = nil
				if !same(other, want) || !same(head.All(c, p), want) {
					t.Errorf("All(%+v, %04x) shares memory with an earlier answer", c, p)
				}
			}
		}
	}
}

func TestHeadersHaveNoRoom(t *testing.T) {
	for _, c := range shortening() {
		for _, p := range append(some(), never()...) {
			for _, b := range append(head.All(c, p), head.Put(c, p)) {
				if cap(b) != len(b) {
					t.Errorf("% x of %+v has room for %d octets", b, c, cap(b)-len(b))
				}
			}
		}
	}
}
