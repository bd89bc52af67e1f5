package frame_test

import (
	"bytes"
	"slices"
	"testing"

	"marline/api"
	"marline/async"
	"marline/config"
	"marline/frame"
	"marline/head"
	"marline/sync"
)

// all is the map of each octet that a map may have.
const all = 0xffffffff

// kinds gives a config of each kind that a frame's octets hang on, of an MRU that
// is told, by no map.
func kinds(mru int) []api.Config {
	var out []api.Config
	for n := range 8 {
		out = append(out, api.Config{Wide: n&1 != 0, ACFC: n&2 != 0, PFC: n&4 != 0, MRU: mru})
	}
	return out
}

// senders gives a config of each kind that what is sent hangs on.
func senders(mru int) []api.Config {
	var out []api.Config
	for _, c := range kinds(mru) {
		for _, m := range []uint32{0, 1 << 0x11, 0x000a0000, 0x80000001, all} {
			c.Send, c.Recv = m, m
			out = append(out, c)
		}
		c.Sync = true
		out = append(out, c)
	}
	return out
}

// some are numbers that may be, of all kinds, and at all edges.
func some() []uint16 {
	return []uint16{
		api.LCP, api.PAP, api.LQR, api.CHAP, api.IPCP, api.IPV6CP, api.MP, api.IP,
		0x0001, 0x0003, 0x007d, 0x00fd, 0x0201, 0x02ff, 0x7e7d, 0xc01f, 0xc0ff, 0xfe03, 0xfeff,
	}
}

// never are numbers that may not be.
func never() []uint16 {
	return []uint16{
		0x0000, 0x0020, 0x00fe, 0x00ff, 0x0100, 0x0121, 0x01ff,
		0xc020, 0xc121, 0xfefe, 0xff00, 0xff03, 0xfffe, 0xffff,
	}
}

// mayBe says in the words of layer 9 whether a protocol's number may be.
func mayBe(p uint16) bool {
	high, low := p/256, p%256
	return low%2 == 1 && high%2 == 0 && p != 0x00ff
}

// header says in the words of layer 10 what a config's header is.
func header(c api.Config, p uint16) []byte {
	var out []byte
	if !c.ACFC || p == 0xc021 {
		out = append(out, 0xff, 0x03)
	}
	if c.PFC && p < 256 && p != 0xc021 {
		return append(out, byte(p%256))
	}
	return append(out, byte(p/256), byte(p%256))
}

// began says in the words of layers 9 and 10 which header octets begin with, and
// how many octets it has: 0, if they begin with none.
func began(c api.Config, b []byte) (uint16, int) {
	n := 0
	if len(b) >= 2 && b[0] == 0xff && b[1] == 0x03 {
		n = 2
	} else if !c.ACFC {
		return 0, 0
	}
	switch rest := b[n:]; {
	case len(rest) >= 1 && c.PFC && rest[0]%2 == 1 && rest[0] != 0xff:
		return uint16(rest[0]), n + 1
	case len(rest) >= 2 && mayBe(uint16(rest[0])*256+uint16(rest[1])):
		return uint16(rest[0])*256 + uint16(rest[1]), n + 2
	}
	return 0, 0
}

// sum says in the words of layer 2 what is written of octets' sum.
func sum(wide bool, b []byte) []byte {
	reg, turn, size := uint32(0xffff), uint32(0x8408), 2
	if wide {
		reg, turn, size = 0xffffffff, 0xedb88320, 4
	}
	for _, c := range b {
		reg ^= uint32(c)
		for range 8 {
			odd := reg%2 == 1
			reg /= 2
			if odd {
				reg ^= turn
			}
		}
	}
	var out []byte
	for i := range size {
		out = append(out, byte(^reg>>(8*i)))
	}
	return out
}

// summed gives octets and the sum that a config wants behind them.
func summed(c api.Config, b ...byte) []byte { return slices.Concat(b, sum(c.Wide, b)) }

// built says in the chapter's words what a frame is.
func built(c api.Config, p uint16, info []byte) []byte {
	return summed(c, slices.Concat(header(c, p), info)...)
}

// sent says in the words of layers 4 to 7 how octets are sent.
func sent(c api.Config, b []byte) []byte {
	if c.Sync {
		return stuffed(b)
	}
	out := []byte{0x7e}
	for _, o := range b {
		if o == 0x7d || o == 0x7e || o < 32 && c.Send>>o&1 == 1 {
			out = append(out, 0x7d)
			o ^= 0x20
		}
		out = append(out, o)
	}
	return append(out, 0x7e)
}

// stuffed says in the words of layers 1, 6, and 7 how octets are sent as bits.
func stuffed(b []byte) []byte {
	flag := []byte{0, 1, 1, 1, 1, 1, 1, 0}
	out, row := slices.Clone(flag), 0
	for _, o := range b {
		for i := range 8 {
			bit := o >> i & 1
			out = append(out, bit)
			if row++; bit == 0 {
				row = 0
			}
			if row == 5 {
				out = append(out, 0)
				row = 0
			}
		}
	}
	return append(out, flag...)
}

// most says in the words of layer 8 how many octets a frame has at most.
func most(c api.Config) int { return c.MRU + 4 + len(sum(c.Wide, nil)) }

// parsed says in the chapter's words what is read of octets.
func parsed(c api.Config, b []byte) (uint16, []byte, api.Errno) {
	size := len(sum(c.Wide, nil))
	if len(b) > most(c) {
		return 0, nil, api.ErrLong
	}
	if len(b) <= size {
		return 0, nil, api.ErrShort
	}
	ahead := b[:len(b)-size]
	if !bytes.Equal(sum(c.Wide, ahead), b[len(b)-size:]) {
		return 0, nil, api.ErrSum
	}
	p, n := began(c, ahead)
	if n == 0 {
		return 0, nil, api.ErrHead
	}
	if len(ahead)-n > c.MRU {
		return 0, nil, api.ErrLong
	}
	return p, ahead[n:], api.OK
}

// several gives n octets, of which each one differs from its neighbours.
func several(n int) []byte {
	var out []byte
	for i := range n {
		out = append(out, byte(i*37+i/256))
	}
	return out
}

// infos gives information of all kinds that an MRU of 64 lets through.
func infos() [][]byte {
	return [][]byte{
		nil, {}, {0x00}, {0x21}, {0x7e}, {0x7d}, {0xff}, {0xff, 0x03}, {0xff, 0x03, 0x00, 0x21},
		{0x7e, 0x7e, 0x7d, 0x5e, 0x11, 0x13, 0x1f, 0x20}, bytes.Repeat([]byte{0xff}, 10), bytes.Repeat([]byte{0x7e}, 64),
		several(32), several(63), several(64), make([]byte, 64),
	}
}

// rows calls f with each row of 0 to most octets of those that are told; it may
// not keep them.
func rows(octets []byte, most int, f func(b []byte)) {
	var grow func(b []byte)
	grow = func(b []byte) {
		f(b)
		if len(b) == most {
			return
		}
		for _, c := range octets {
			grow(append(b, c))
		}
	}
	grow(make([]byte, 0, most))
}

// every gives all 256 octets.
func every() []byte {
	var out []byte
	for n := range 256 {
		out = append(out, byte(n))
	}
	return out
}

// checkBuild holds what Build answers against what is wanted.
func checkBuild(t *testing.T, c api.Config, p uint16, info, want []byte, errno api.Errno) {
	t.Helper()
	got, gotErrno := frame.Build(c, p, info)
	if !bytes.Equal(got, want) || gotErrno != errno {
		t.Fatalf("Build(%+v, %04x, % x) = % x, %d, want % x, %d", c, p, info, got, gotErrno, want, errno)
	}
}

// checkWire holds what Wire answers against what is wanted.
func checkWire(t *testing.T, c api.Config, p uint16, info, want []byte, errno api.Errno) {
	t.Helper()
	got, gotErrno := frame.Wire(c, p, info)
	if !bytes.Equal(got, want) || gotErrno != errno {
		t.Fatalf("Wire(%+v, %04x, % x) = % x, %d, want % x, %d", c, p, info, got, gotErrno, want, errno)
	}
}

// checkParse holds what Parse answers against what is wanted.
func checkParse(t *testing.T, c api.Config, b []byte, p uint16, info []byte, errno api.Errno) {
	t.Helper()
	gotP, gotInfo, gotErrno := frame.Parse(c, b)
	if gotP != p || !bytes.Equal(gotInfo, info) || gotErrno != errno {
		t.Fatalf("Parse(%+v, % x) = %04x, % x, %d, want %04x, % x, %d", c, b, gotP, gotInfo, gotErrno, p, info, errno)
	}
}

// checkWrong wants that Parse finds nothing, and tells why.
func checkWrong(t *testing.T, c api.Config, b []byte, errno api.Errno) {
	t.Helper()
	checkParse(t, c, b, 0, nil, errno)
}

// checkModel holds what Parse answers against the chapter's words.
func checkModel(t *testing.T, c api.Config, b []byte) {
	t.Helper()
	p, info, errno := parsed(c, b)
	checkParse(t, c, b, p, info, errno)
}

// P11.1: Build.

func TestBuildOfKnownFrames(t *testing.T) {
	none := api.Config{MRU: 64}
	acfc := api.Config{ACFC: true, MRU: 64}
	pfc := api.Config{PFC: true, MRU: 64}
	both := api.Config{ACFC: true, PFC: true, MRU: 64}
	wide := api.Config{Wide: true, MRU: 64}
	wideBoth := api.Config{Wide: true, ACFC: true, PFC: true, MRU: 64}
	echo := []byte{0x09, 0x05, 0x00, 0x08, 0x01, 0x02, 0x03, 0x04}
	for _, x := range []struct {
		c    api.Config
		p    uint16
		info []byte
		want []byte
	}{
		{both, api.IP, nil, []byte{0x21, 0xf3, 0xc0}},
		{wideBoth, api.IP, nil, []byte{0x21, 0xd3, 0xff, 0x6b, 0x9e}},
		{none, api.IP, []byte{1, 2}, []byte{0xff, 0x03, 0x00, 0x21, 1, 2, 0x44, 0x74}},
		{acfc, api.IP, []byte{1, 2}, []byte{0x00, 0x21, 1, 2, 0xf3, 0x9f}},
		{pfc, api.IP, []byte{1, 2}, []byte{0xff, 0x03, 0x21, 1, 2, 0xcd, 0x7c}},
		{both, api.IP, []byte{1, 2}, []byte{0x21, 1, 2, 0xe1, 0xa5}},
		{wide, api.IP, []byte{1, 2}, []byte{0xff, 0x03, 0x00, 0x21, 1, 2, 0x05, 0x0c, 0x3c, 0xdc}},
		{wideBoth, api.IP, []byte{1, 2}, []byte{0x21, 1, 2, 0xa8, 0xa5, 0xdb, 0x31}},
		{none, api.LCP, nil, []byte{0xff, 0x03, 0xc0, 0x21, 0x49, 0x2c}},
		{both, api.LCP, echo, slices.Concat([]byte{0xff, 0x03, 0xc0, 0x21}, echo, []byte{0x57, 0x5b})},
		{wideBoth, api.LCP, echo, slices.Concat([]byte{0xff, 0x03, 0xc0, 0x21}, echo, []byte{0xd6, 0x12, 0x64, 0xd3})},
		// Octets aren't escaped within a frame yet.
		{both, api.PAP, []byte{0x7e, 0x7d}, []byte{0xc0, 0x23, 0x7e, 0x7d, 0xee, 0xe9}},
	} {
		checkBuild(t, x.c, x.p, x.info, x.want, api.OK)
	}
}

func TestBuildByEachConfig(t *testing.T) {
	for _, c := range senders(64) {
		for _, p := range some() {
			for _, info := range infos() {
				checkBuild(t, c, p, info, built(c, p, info), api.OK)
			}
		}
	}
}

func TestBuildOfEachNumber(t *testing.T) {
	info := []byte{0x45, 0x00}
	for _, c := range kinds(64) {
		for n := range 1 << 16 {
			p := uint16(n)
			if mayBe(p) {
				checkBuild(t, c, p, info, built(c, p, info), api.OK)
			} else {
				checkBuild(t, c, p, info, nil, api.ErrHead)
			}
		}
	}
}

func TestBuildOfEachLength(t *testing.T) {
	for _, c := range kinds(64) {
		for n := range 80 {
			for _, p := range []uint16{api.LCP, api.IP, api.IPCP} {
				info := several(n)
				if n <= 64 {
					checkBuild(t, c, p, info, built(c, p, info), api.OK)
				} else {
					checkBuild(t, c, p, info, nil, api.ErrLong)
				}
			}
		}
	}
}

func TestBuildAboutTheMRU(t *testing.T) {
	for _, mru := range []int{64, 65, 1499, 1500, 1501, 65534, 65535} {
		for _, c := range kinds(mru) {
			for _, n := range []int{0, 1, mru - 1, mru} {
				info := several(n)
				checkBuild(t, c, api.IP, info, built(c, api.IP, info), api.OK)
			}
			for _, n := range []int{mru + 1, mru + 2, mru + 8, 70000} {
				checkBuild(t, c, api.IP, make([]byte, n), nil, api.ErrLong)
				checkBuild(t, c, api.LCP, make([]byte, n), nil, api.ErrLong)
			}
		}
	}
}

func TestBuildTellsTheNumberFirst(t *testing.T) {
	for _, c := range senders(64) {
		for _, p := range never() {
			for _, n := range []int{0, 1, 64, 65, 200} {
				checkBuild(t, c, p, several(n), nil, api.ErrHead)
				checkWire(t, c, p, several(n), nil, api.ErrHead)
			}
		}
	}
}

func TestBuildHangsOnNoMap(t *testing.T) {
	for _, c := range kinds(64) {
		for _, m := range []uint32{0, 8, all} {
			other := c
			other.Send, other.Recv, other.Sync = m, ^m, m != 8
			for _, info := range infos() {
				checkBuild(t, other, api.IP, info, built(c, api.IP, info), api.OK)
			}
		}
	}
}

// P11.1: Wire.

func TestWireOfKnownFrames(t *testing.T) {
	both := api.Config{ACFC: true, PFC: true, MRU: 64}
	escaped := both
	escaped.Send = all
	bits := both
	bits.Sync = true
	echo := []byte{0x09, 0x05, 0x00, 0x08, 0x01, 0x02, 0x03, 0x04}
	for _, x := range []struct {
		c    api.Config
		p    uint16
		info []byte
		want []byte
	}{
		{both, api.IP, nil, []byte{0x7e, 0x21, 0xf3, 0xc0, 0x7e}},
		{both, api.IP, []byte{1, 2}, []byte{0x7e, 0x21, 1, 2, 0xe1, 0xa5, 0x7e}},
		{escaped, api.IP, []byte{1, 2}, []byte{0x7e, 0x21, 0x7d, 0x21, 0x7d, 0x22, 0xe1, 0xa5, 0x7e}},
		{both, api.PAP, []byte{0x7e, 0x7d}, []byte{0x7e, 0xc0, 0x23, 0x7d, 0x5e, 0x7d, 0x5d, 0xee, 0xe9, 0x7e}},
		{both, api.LCP, echo, slices.Concat([]byte{0x7e, 0xff, 0x03, 0xc0, 0x21}, echo, []byte{0x57, 0x5b, 0x7e})},
		{escaped, api.LCP, nil, []byte{0x7e, 0xff, 0x7d, 0x23, 0xc0, 0x21, 0x49, 0x2c, 0x7e}},
		{bits, api.IP, nil, []byte{
			0, 1, 1, 1, 1, 1, 1, 0, // a flag
			1, 0, 0, 0, 0, 1, 0, 0, // 21
			1, 1, 0, 0, 1, 1, 1, 1, // f3
			0, 0, 0, 0, 0, 0, 1, 1, // c0
			0, 1, 1, 1, 1, 1, 1, 0,
		}},
		{bits, api.LCP, nil, []byte{
			0, 1, 1, 1, 1, 1, 1, 0, // a flag
			1, 1, 1, 1, 1, 0, 1, 1, 1, // ff, stuffed
			1, 1, 0, 0, 0, 0, 0, 0, 0, // 03: its two 1s make five with those ahead
			0, 0, 0, 0, 0, 0, 1, 1, // c0
			1, 0, 0, 0, 0, 1, 0, 0, // 21
			1, 0, 0, 1, 0, 0, 1, 0, // 49
			0, 0, 1, 1, 0, 1, 0, 0, // 2c
			0, 1, 1, 1, 1, 1, 1, 0,
		}},
	} {
		checkWire(t, x.c, x.p, x.info, x.want, api.OK)
	}
}

func TestWireByEachConfig(t *testing.T) {
	for _, c := range senders(64) {
		for _, p := range some() {
			for _, info := range infos() {
				checkWire(t, c, p, info, sent(c, built(c, p, info)), api.OK)
			}
		}
	}
}

// TestWireEscapesSums sends so many frames that each octet stands in a sum.
func TestWireEscapesSums(t *testing.T) {
	for _, c := range senders(64) {
		seen := map[byte]bool{}
		for n := range 2000 {
			info := []byte{byte(n), byte(n >> 8)}
			for _, o := range sum(c.Wide, slices.Concat(header(c, api.IP), info)) {
				seen[o] = true
			}
			checkWire(t, c, api.IP, info, sent(c, built(c, api.IP, info)), api.OK)
		}
		if len(seen) != 256 {
			t.Errorf("sums by %+v have only %d octets", c, len(seen))
		}
	}
}

func TestWireIsBitsIfSync(t *testing.T) {
	for _, c := range senders(64) {
		for _, info := range infos() {
			wire, _ := frame.Wire(c, api.IP, info)
			more := slices.ContainsFunc(wire, func(b byte) bool { return b > 1 })
			if more == c.Sync {
				t.Errorf("Wire(%+v, 0021, % x) = % x", c, info, wire)
			}
		}
	}
}

func TestWireTellsBuildsError(t *testing.T) {
	for _, c := range senders(64) {
		for n := range 1 << 16 {
			if p := uint16(n); !mayBe(p) {
				checkWire(t, c, p, []byte{1}, nil, api.ErrHead)
			}
		}
		for _, n := range []int{65, 66, 72, 1500, 70000} {
			for _, p := range some() {
				checkWire(t, c, p, make([]byte, n), nil, api.ErrLong)
			}
		}
	}
}

func TestWireAboutTheMRU(t *testing.T) {
	for _, mru := range []int{64, 1500, 65535} {
		for _, c := range []api.Config{{MRU: mru}, {Sync: true, MRU: mru}, {Wide: true, Send: all, MRU: mru}} {
			for _, n := range []int{mru - 1, mru} {
				info := several(n)
				checkWire(t, c, api.IP, info, sent(c, built(c, api.IP, info)), api.OK)
			}
			checkWire(t, c, api.IP, several(mru+1), nil, api.ErrLong)
		}
	}
}

func TestWireHangsOnNoOtherMap(t *testing.T) {
	for _, c := range senders(64) {
		for _, info := range infos() {
			want := sent(c, built(c, api.IP, info))
			other := c
			other.Recv = ^c.Recv
			if c.Sync {
				other.Send = ^c.Send
			}
			checkWire(t, other, api.IP, info, want, api.OK)
		}
	}
}

// P11.2: Parse.

func TestParseOfKnownFrames(t *testing.T) {
	none := api.Config{MRU: 64}
	acfc := api.Config{ACFC: true, MRU: 64}
	both := api.Config{ACFC: true, PFC: true, MRU: 64}
	wide := api.Config{Wide: true, MRU: 64}
	checkParse(t, both, []byte{0x21, 0xf3, 0xc0}, api.IP, nil, api.OK)
	checkParse(t, both, []byte{0x21, 1, 2, 0xe1, 0xa5}, api.IP, []byte{1, 2}, api.OK)
	for _, c := range []api.Config{none, both} {
		checkParse(t, c, []byte{0xff, 0x03, 0x00, 0x21, 1, 2, 0x44, 0x74}, api.IP, []byte{1, 2}, api.OK)
		checkParse(t, c, []byte{0xff, 0x03, 0xc0, 0x21, 0x49, 0x2c}, api.LCP, nil, api.OK)
	}
	checkParse(t, wide, []byte{0xff, 0x03, 0x00, 0x21, 1, 2, 0x05, 0x0c, 0x3c, 0xdc}, api.IP, []byte{1, 2}, api.OK)
	checkParse(t, acfc, []byte{0x00, 0x21, 1, 2, 0xf3, 0x9f}, api.IP, []byte{1, 2}, api.OK)
	// The sums of these are right, their headers may not be.
	checkWrong(t, none, []byte{0x21, 1, 2, 0xe1, 0xa5}, api.ErrHead)
	checkWrong(t, acfc, []byte{0x21, 1, 2, 0xe1, 0xa5}, api.ErrHead)
	// The sum has its octets in the wrong order, or is one of another size.
	checkWrong(t, both, []byte{0x21, 0xc0, 0xf3}, api.ErrSum)
	checkWrong(t, wide, []byte{0xff, 0x03, 0x00, 0x21, 1, 2, 0x44, 0x74}, api.ErrSum)
	checkWrong(t, none, []byte{0xff, 0x03, 0x00, 0x21, 1, 2, 0x05, 0x0c, 0x3c, 0xdc}, api.ErrSum)
}

func TestParseOfShortOctets(t *testing.T) {
	for _, c := range kinds(64) {
		size := len(sum(c.Wide, nil))
		checkWrong(t, c, nil, api.ErrShort)
		for n := range size + 1 {
			checkWrong(t, c, make([]byte, n), api.ErrShort)
			checkWrong(t, c, several(n), api.ErrShort)
		}
		// What is written of the sum of no octets is good, but no frame.
		checkWrong(t, c, sum(c.Wide, nil), api.ErrShort)
		checkWrong(t, c, make([]byte, size+1), api.ErrSum)
		checkWrong(t, c, summed(c, 0x00), api.ErrHead)
	}
}

func TestParseOfAllShortRows(t *testing.T) {
	for _, c := range kinds(64) {
		rows(every(), 2, func(b []byte) {
			checkModel(t, c, b)
			checkModel(t, c, summed(c, b...))
			checkModel(t, c, summed(c, append([]byte{0xff, 0x03}, b...)...))
		})
	}
}

func TestParseOfLongerRows(t *testing.T) {
	octets := []byte{0x00, 0x01, 0x03, 0x20, 0x21, 0x7e, 0xc0, 0xfe, 0xff}
	for _, c := range kinds(64) {
		rows(octets, 5, func(b []byte) {
			checkModel(t, c, b)
			checkModel(t, c, summed(c, b...))
		})
	}
}

func TestParseOfWrongHeaders(t *testing.T) {
	for _, c := range kinds(64) {
		for _, b := range [][]byte{
			{0x00}, {0xc0}, {0xff}, {0xff, 0x03}, {0xff, 0x03, 0xc0}, // cut off
			{0xff, 0x04, 0x00, 0x21}, {0xff, 0x00, 0x21}, {0xff, 0xff, 0x03, 0x00, 0x21}, // no control octet
			{0xff, 0x03, 0xff, 0x03, 0x00, 0x21},                                           // twice
			{0xff, 0x03, 0x00, 0x20}, {0xff, 0x03, 0x00, 0xff}, {0x00, 0x20}, {0x00, 0xff}, // numbers that may not be
		} {
			checkWrong(t, c, summed(c, b...), api.ErrHead)
		}
		if !c.ACFC {
			checkWrong(t, c, summed(c, 0x00, 0x21, 0x45), api.ErrHead)
			checkWrong(t, c, summed(c, 0x21, 0x45), api.ErrHead)
		}
	}
}

// TestParseOfEachLength goes about both bounds: that of a frame, and that of the
// information, which a shortened header makes the narrower one.
func TestParseOfEachLength(t *testing.T) {
	for _, mru := range []int{64, 1500, 65535} {
		for _, c := range kinds(mru) {
			for _, h := range head.All(c, api.IP) {
				for n := mru - 2; n <= mru+12; n++ {
					info := several(n)
					b := summed(c, slices.Concat(h, info)...)
					if n <= mru {
						checkParse(t, c, b, api.IP, info, api.OK)
					} else {
						checkWrong(t, c, b, api.ErrLong)
					}
				}
			}
		}
	}
}

func TestParseTellsAFramesLengthFirst(t *testing.T) {
	for _, mru := range []int{64, 65, 1500, 65535} {
		for _, c := range kinds(mru) {
			for n := most(c) - 2; n <= most(c)+2; n++ {
				// Neither a sum nor a header is right.
				want := api.ErrSum
				if n > most(c) {
					want = api.ErrLong
				}
				checkWrong(t, c, make([]byte, n), want)
				// The sum is right, the header isn't.
				want = api.ErrHead
				if n > most(c) {
					want = api.ErrLong
				}
				checkWrong(t, c, summed(c, make([]byte, n-len(sum(c.Wide, nil)))...), want)
			}
		}
	}
}

// TestParseTellsASumFirst spoils the sum of frames that are wrong otherwise, too.
func TestParseTellsASumFirst(t *testing.T) {
	for _, c := range kinds(64) {
		for _, b := range [][]byte{
			{0x00}, {0xff, 0x03}, {0xff, 0x03, 0x00, 0x20}, {0x00, 0xff},
			append([]byte{0x21}, make([]byte, 65)...), append([]byte{0x00, 0x21}, make([]byte, 66)...),
		} {
			wrong := summed(c, b...)
			wrong[len(wrong)-1] ^= 1
			checkWrong(t, c, wrong, api.ErrSum)
		}
	}
}

func TestParseOfTurnedBits(t *testing.T) {
	for _, c := range kinds(64) {
		for _, p := range []uint16{api.LCP, api.IP, api.IPCP} {
			b, _ := frame.Build(c, p, several(9))
			for i := range len(b) * 8 {
				for _, row := range []int{1, 3, 0x81, 0x8001, 0xffff} {
					wrong := turned(b, i, row)
					checkWrong(t, c, wrong, api.ErrSum)
				}
			}
			checkParse(t, c, b, p, several(9), api.OK)
		}
	}
}

// turned gives octets with the bits of a row turned, of which the lowest one is
// bit i; what reaches past the end is left aside.
func turned(b []byte, i, row int) []byte {
	out := bytes.Clone(b)
	for ; row != 0 && i < len(b)*8; i, row = i+1, row>>1 {
		out[i/8] ^= byte(row&1) << (i % 8)
	}
	return out
}

func TestParseOfOctetsThatAreLost(t *testing.T) {
	for _, c := range kinds(64) {
		for _, info := range infos() {
			b, _ := frame.Build(c, api.IP, info)
			for n := range len(b) {
				checkModel(t, c, b[:n])
				checkModel(t, c, b[n:])
				checkModel(t, c, slices.Delete(bytes.Clone(b), n, n+1))
				checkModel(t, c, slices.Insert(bytes.Clone(b), n, 0x21))
			}
			checkModel(t, c, slices.Concat(b, b))
		}
	}
}

func TestParseHangsOnNoMap(t *testing.T) {
	for _, c := range kinds(64) {
		for _, m := range []uint32{0, 8, all} {
			other := c
			other.Send, other.Recv, other.Sync = m, ^m, m != 8
			for _, info := range infos() {
				checkParse(t, other, built(c, api.IP, info), api.IP, info, api.OK)
			}
			checkWrong(t, other, several(9), api.ErrSum)
		}
	}
}

// P11.2, P6: each header that is read leads to the same.

func TestParseOfAllHeaders(t *testing.T) {
	for _, c := range kinds(64) {
		for _, p := range some() {
			for _, h := range head.All(c, p) {
				for _, info := range infos() {
					checkParse(t, c, summed(c, slices.Concat(h, info)...), p, info, api.OK)
				}
			}
		}
	}
}

// P11.3: what is built is read.

func TestWhatIsBuiltIsRead(t *testing.T) {
	for _, c := range senders(64) {
		for _, p := range some() {
			for _, info := range infos() {
				b, errno := frame.Build(c, p, info)
				if errno != api.OK {
					t.Fatalf("Build(%+v, %04x, % x) = %d", c, p, info, errno)
				}
				checkParse(t, c, b, p, info, api.OK)
			}
		}
	}
}

func TestEachNumberIsRead(t *testing.T) {
	for _, c := range kinds(64) {
		for n := range 1 << 16 {
			if p := uint16(n); mayBe(p) {
				b, _ := frame.Build(c, p, []byte{0x21})
				checkParse(t, c, b, p, []byte{0x21}, api.OK)
			}
		}
	}
}

func TestWhatFitsReads(t *testing.T) {
	fitted := 0
	for _, send := range senders(64) {
		for _, read := range slices.Concat(senders(64), senders(65), senders(1500)) {
			if !config.Fits(send, read) {
				continue
			}
			fitted++
			for _, p := range []uint16{api.LCP, api.IP, api.IPCP, 0x00fd, 0xfeff} {
				for _, info := range infos() {
					b, _ := frame.Build(send, p, info)
					checkParse(t, read, b, p, info, api.OK)
				}
			}
		}
	}
	if fitted < len(senders(64))*3 {
		t.Errorf("only %d configs fit", fitted)
	}
}

// TestWhatIsSentIsRead sends frames one behind the other through a deframer.
func TestWhatIsSentIsRead(t *testing.T) {
	for _, send := range senders(64) {
		for _, read := range slices.Concat(senders(64), senders(1500)) {
			if !config.Fits(send, read) {
				continue
			}
			var wire []byte
			for _, info := range infos() {
				w, errno := frame.Wire(send, api.IP, info)
				if errno != api.OK {
					t.Fatalf("Wire(%+v, 0021, % x) = %d", send, info, errno)
				}
				wire = append(wire, w...)
			}
			got := segments(t, read, wire)
			if len(got) != len(infos()) {
				t.Fatalf("%d frames by %+v came to %+v as %d", len(infos()), send, read, len(got))
			}
			for i, info := range infos() {
				checkParse(t, read, got[i], api.IP, info, api.OK)
			}
		}
	}
}

// segments gives what a deframer reads of what is sent, and wants it whole.
func segments(t *testing.T, c api.Config, wire []byte) [][]byte {
	t.Helper()
	var out [][]byte
	if c.Sync {
		for _, s := range sync.New(config.Most(c)).Feed(wire) {
			if s.Kind != sync.Whole {
				t.Errorf("a segment by %+v tells %d", c, s.Kind)
			}
			out = append(out, s.Data)
		}
		return out
	}
	for _, s := range async.New(c.Recv, config.Most(c)).Feed(wire) {
		if s.Kind != async.Whole {
			t.Errorf("a segment by %+v tells %d", c, s.Kind)
		}
		out = append(out, s.Data)
	}
	return out
}

func TestUnlikeFramesDiffer(t *testing.T) {
	for _, c := range kinds(64) {
		seen := map[string]bool{}
		count := 0
		for _, p := range some() {
			for _, info := range infos()[1:] {
				b, _ := frame.Build(c, p, info)
				seen[string(b)] = true
				count++
			}
		}
		if len(seen) != count {
			t.Errorf("%d frames by %+v are built as %d", count, c, len(seen))
		}
	}
}

// K5: nothing is changed, kept, or read behind a list's length.

// withRoom gives octets in a memory that has more behind them.
func withRoom(b []byte) []byte {
	return slices.Concat(b, []byte{0x21, 0xf3, 0xc0, 0x7e, 0xa5, 0xa5, 0xa5, 0xa5})[:len(b)]
}

func TestWhatIsHandedInIsLeft(t *testing.T) {
	for _, c := range senders(64) {
		for _, info := range infos() {
			in := withRoom(info)
			whole := bytes.Clone(in[:cap(in)])
			frame.Build(c, api.IP, in)
			frame.Build(c, api.LCP, in)
			frame.Wire(c, api.IP, in)
			frame.Parse(c, in)
			if !bytes.Equal(in[:cap(in)], whole) {
				t.Errorf("% x became % x", whole, in[:cap(in)])
			}
			b := withRoom(built(c, api.IP, info))
			whole = bytes.Clone(b[:cap(b)])
			frame.Parse(c, b)
			if !bytes.Equal(b[:cap(b)], whole) {
				t.Errorf("% x became % x", whole, b[:cap(b)])
			}
		}
	}
}

func TestNoRoomIsRead(t *testing.T) {
	for _, c := range senders(64) {
		for _, info := range infos() {
			in := withRoom(info)
			checkBuild(t, c, api.IP, in, built(c, api.IP, info), api.OK)
			checkWire(t, c, api.IP, in, sent(c, built(c, api.IP, info)), api.OK)
			b := built(c, api.IP, info)
			checkParse(t, c, withRoom(b), api.IP, info, api.OK)
			// The sum lies in the room.
			checkModel(t, c, b[:len(b)-1])
			checkWrong(t, c, b[:0], api.ErrShort)
			checkWrong(t, c, b[:1], api.ErrShort)
		}
	}
}

// spoil overwrites octets, and what lies behind them in their memory.
func spoil(b []byte) {
	b = b[:cap(b)]
	for i := range b {
		b[i] ^= 0xa5
	}
}

func TestAnswersAreNewMemory(t *testing.T) {
	for _, c := range senders(64) {
		for _, given := range infos() {
			info := bytes.Clone(given)
			want := built(c, api.IP, given)
			b, _ := frame.Build(c, api.IP, info)
			wire, _ := frame.Wire(c, api.IP, info)
			_, read, _ := frame.Parse(c, want)
			spoil(b)
			spoil(wire)
			spoil(read)
			if !bytes.Equal(info, given) || !bytes.Equal(want, built(c, api.IP, given)) {
				t.Errorf("answers of % x by %+v share its memory", given, c)
			}
			checkBuild(t, c, api.IP, given, want, api.OK)
			checkWire(t, c, api.IP, given, sent(c, want), api.OK)
			checkParse(t, c, want, api.IP, given, api.OK)
		}
	}
}

func TestNothingIsKept(t *testing.T) {
	for _, c := range senders(64) {
		info := several(20)
		b, _ := frame.Build(c, api.IP, info)
		wire, _ := frame.Wire(c, api.IP, info)
		given := bytes.Clone(b)
		_, read, _ := frame.Parse(c, given)
		spoil(info)
		spoil(given)
		want := built(c, api.IP, several(20))
		if !bytes.Equal(b, want) || !bytes.Equal(wire, sent(c, want)) || !bytes.Equal(read, several(20)) {
			t.Errorf("answers by %+v changed with what was handed in", c)
		}
	}
}

func TestNoRoomIsHandedOut(t *testing.T) {
	secret := bytes.Repeat([]byte{0xa5}, 40)
	for _, c := range senders(64) {
		for n := range 20 {
			in := slices.Concat(several(n), secret)[:n]
			b, _ := frame.Build(c, api.IP, in)
			wire, _ := frame.Wire(c, api.IP, in)
			whole := slices.Concat(built(c, api.IP, several(n)), secret)
			_, read, _ := frame.Parse(c, whole[:len(whole)-len(secret)])
			for _, out := range [][]byte{b, wire, read} {
				if bytes.Contains(out[len(out):cap(out)], []byte{0xa5}) {
					t.Errorf("% x by %+v has room that was handed in", out, c)
				}
			}
		}
	}
}
