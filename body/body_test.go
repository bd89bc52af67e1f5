package body_test

import (
	"bytes"
	"slices"
	"testing"

	"marline/api"
	"marline/body"
	"marline/chap"
	"marline/lcp"
	"marline/lqr"
	"marline/ncp"
	"marline/pap"
)

// most is how many octets a control packet's data has at most.
const most = 65531

// The protocols that layers know, as the chapter has them.
const (
	link   = 0xc021
	four   = 0x8021
	six    = 0x8057
	names  = 0xc023
	asks   = 0xc223
	report = 0xc025
)

// known are the protocols that layers know.
func known() []uint16 { return []uint16{link, four, six, names, asks, report} }

// others are numbers that may be, and that no layer knows; many are near to those
// that one knows.
func others() []uint16 {
	return []uint16{
		0x0001, 0x0021, 0x0057, 0x003d, 0x0023, 0x0025, 0x00fd, 0x02ff, 0x2045, 0x4021, 0x8023, 0x8025, 0x8055, 0x8059,
		0x80fd, 0x8221, 0x8257, 0xc01f, 0xc027, 0xc057, 0xc221, 0xc225, 0xc423, 0xc0ff, 0xfe01, 0xfeff,
	}
}

// may says in chapter 9's words whether a protocol's number may be.
func may(proto uint16) bool {
	low, high := proto%256, proto/256
	return low%2 == 1 && high%2 == 0 && proto != 0x00ff
}

// some gives n octets that look like chance, but are the same in every run.
func some(seed uint32, n int) []byte {
	out := make([]byte, n)
	for i := range out {
		seed = seed*1664525 + 1013904223
		out[i] = byte(seed >> 24)
	}
	return out
}

// nums gives n numbers that look like chance, but are the same in every run.
func nums(seed uint32, n int) []uint32 {
	out := make([]uint32, n)
	for i := range out {
		for _, o := range some(seed+uint32(i), 4) {
			out[i] = out[i]*256 + uint32(o)
		}
	}
	return out
}

// opt gives an option of a type that has n octets of data.
func opt(t byte, n int) api.Opt { return api.Opt{Type: t, Data: some(uint32(t), n)} }

// control says how a control packet is written.
func control(code, id byte, data ...byte) []byte {
	n := len(data) + 4
	return slices.Concat([]byte{code, id, byte(n / 256), byte(n % 256)}, data)
}

// put says in the chapter's words what Put answers.
func put(p api.Packet) ([]byte, api.Errno) {
	switch p.Proto {
	case 0xc021:
		return lcp.Put(p)
	case 0x8021, 0x8057:
		return ncp.Put(p)
	case 0xc023:
		return pap.Put(p)
	case 0xc223:
		return chap.Put(p)
	case 0xc025:
		return lqr.Put(p)
	}
	if !may(p.Proto) {
		return nil, api.ErrHead
	}
	if p.Code != 0 || p.ID != 0 || len(p.Opts) > 0 || p.Sub != 0 || p.Magic != 0 ||
		len(p.One) > 0 || len(p.Two) > 0 || len(p.Nums) > 0 {
		return nil, api.ErrField
	}
	return p.Data, api.OK
}

// written says in the chapter's words how a packet that can be written is.
func written(t *testing.T, p api.Packet) []byte {
	t.Helper()
	b, errno := put(p)
	if errno != api.OK {
		t.Fatalf("%v can't be written: %d", brief(p), errno)
	}
	return bytes.Clone(b)
}

// get says in the chapter's words what Get answers.
func get(proto uint16, b []byte) (api.Packet, api.Errno) {
	switch proto {
	case 0xc021:
		return lcp.Get(b)
	case 0x8021, 0x8057:
		return ncp.Get(proto, b)
	case 0xc023:
		return pap.Get(b)
	case 0xc223:
		return chap.Get(b)
	case 0xc025:
		return lqr.Get(b)
	}
	if !may(proto) {
		return api.Packet{}, api.ErrHead
	}
	return api.Packet{Proto: proto, Data: b}, api.OK
}

// alike tells whether two packets have the same fields, one by one.
func alike(a, b api.Packet) bool {
	opts := slices.EqualFunc(a.Opts, b.Opts, func(a, b api.Opt) bool { return a.Type == b.Type && string(a.Data) == string(b.Data) })
	return opts && a.Proto == b.Proto && a.Code == b.Code && a.ID == b.ID && a.Sub == b.Sub && a.Magic == b.Magic &&
		string(a.One) == string(b.One) && string(a.Two) == string(b.Two) && string(a.Data) == string(b.Data) && slices.Equal(a.Nums, b.Nums)
}

// copied gives the same packet in memory of its own.
func copied(p api.Packet) api.Packet {
	p.Opts = slices.Clone(p.Opts)
	for i, o := range p.Opts {
		p.Opts[i].Data = bytes.Clone(o.Data)
	}
	p.One, p.Two, p.Data = bytes.Clone(p.One), bytes.Clone(p.Two), bytes.Clone(p.Data)
	p.Nums = slices.Clone(p.Nums)
	return p
}

// controls are packets, that can be written, of the protocols that have a code.
func controls() []api.Packet {
	out := []api.Packet{
		{Proto: link, Code: 1, ID: 7, Opts: []api.Opt{opt(1, 2), {Type: 7}, opt(5, 4)}},
		{Proto: link, Code: 4, ID: 255, Opts: []api.Opt{opt(3, 253), opt(77, 0), opt(77, 9)}},
		{Proto: link, Code: 8, ID: 1, Sub: 0x8057, Data: some(1, 20)},
		{Proto: link, Code: 8, ID: 1, Sub: 0x0100},
		{Proto: link, Code: 9, ID: 2, Magic: 0xdeadbeef, Data: some(2, 100)},
		{Proto: link, Code: 11, Magic: 1},
		{Proto: link, Code: 12, ID: 5, Data: some(3, most)},
		{Proto: four, Code: 1, ID: 1, Opts: []api.Opt{opt(3, 4), opt(129, 4), opt(2, 6)}},
		{Proto: four, Code: 3, Opts: []api.Opt{opt(1, 3)}},
		{Proto: six, Code: 1, ID: 1, Opts: []api.Opt{opt(1, 8), opt(3, 3)}},
		{Proto: names, Code: 1, ID: 9, One: some(4, 255), Two: some(5, 255)},
		{Proto: names, Code: 1, Two: []byte{1}},
		{Proto: names, Code: 2, ID: 3, One: some(6, 30)},
		{Proto: names, Code: 3},
		{Proto: asks, Code: 1, ID: 8, One: some(7, 16), Two: some(8, 5)},
		{Proto: asks, Code: 2, One: []byte{0}},
		{Proto: asks, Code: 2, One: some(9, 255), Two: some(9, 1400)},
	}
	for i := range 256 {
		code := byte(i)
		if code == 0 || code > 11 {
			out = append(out, api.Packet{Proto: link, Code: code, ID: ^code, Data: some(uint32(i), i)})
		}
		if code == 0 || code > 4 {
			out = append(out, api.Packet{Proto: four, Code: code, ID: code, Data: some(uint32(i), 9)})
			out = append(out, api.Packet{Proto: six, Code: code, Data: some(uint32(i), i)})
		}
		if code == 0 || code > 3 {
			out = append(out, api.Packet{Proto: names, Code: code, ID: code, Data: some(uint32(i), i)})
		}
		if code == 0 || code > 2 {
			out = append(out, api.Packet{Proto: asks, Code: code, ID: 1, Data: some(uint32(i), 256+i)})
		}
	}
	return out
}

// packets are packets of all protocols that can be written.
func packets() []api.Packet {
	out := append(controls(), api.Packet{Proto: report, Nums: make([]uint32, 12)})
	for i := range 20 {
		out = append(out, api.Packet{Proto: report, Nums: nums(uint32(i), 12)})
	}
	for i, proto := range others() {
		out = append(out, api.Packet{Proto: proto})
		for _, n := range []int{1, 2, 4, 48, 255, 256, 1500, 1501} {
			out = append(out, api.Packet{Proto: proto, Data: some(uint32(i), n)})
		}
		out = append(out, api.Packet{Proto: proto, Data: control(1, 2, 3)}, api.Packet{Proto: proto, Data: make([]byte, 48)})
	}
	return out
}

// wrong is a packet that can't be written, and what is told of it.
type wrong struct {
	p    api.Packet
	code api.Errno
}

// wrongs are packets that can't be written, by each reason that a layer has.
func wrongs() []wrong {
	out := []wrong{
		{api.Packet{Proto: link, Code: 1, Data: []byte{1}}, api.ErrField},
		{api.Packet{Proto: link, Code: 5, Opts: []api.Opt{{}}}, api.ErrField},
		{api.Packet{Proto: link, Code: 9, Sub: 1}, api.ErrField},
		{api.Packet{Proto: link, Code: 8, Magic: 1}, api.ErrField},
		{api.Packet{Proto: link, Code: 9, Nums: []uint32{0}}, api.ErrField},
		{api.Packet{Proto: link, Code: 1, Opts: []api.Opt{opt(1, 3)}}, api.ErrForm},
		{api.Packet{Proto: link, Code: 2, Opts: []api.Opt{opt(8, 1)}}, api.ErrForm},
		{api.Packet{Proto: link, Code: 1, Opts: slices.Repeat([]api.Opt{opt(99, 253)}, 257)}, api.ErrLong},
		{api.Packet{Proto: link, Code: 8, Data: make([]byte, most-1)}, api.ErrLong},
		{api.Packet{Proto: link, Code: 9, Data: make([]byte, most-3)}, api.ErrLong},
		{api.Packet{Proto: link, Code: 5, Data: make([]byte, most+1)}, api.ErrLong},
		{api.Packet{Proto: four, Code: 1, One: []byte{1}}, api.ErrField},
		{api.Packet{Proto: four, Code: 9, Magic: 1}, api.ErrField},
		{api.Packet{Proto: four, Code: 1, Opts: []api.Opt{opt(3, 5)}}, api.ErrForm},
		{api.Packet{Proto: four, Code: 7, Data: make([]byte, most+1)}, api.ErrLong},
		{api.Packet{Proto: six, Code: 8, Sub: 1}, api.ErrField},
		{api.Packet{Proto: six, Code: 1, Opts: []api.Opt{opt(1, 7)}}, api.ErrForm},
		{api.Packet{Proto: six, Code: 7, Data: make([]byte, most+1)}, api.ErrLong},
		{api.Packet{Proto: names, Code: 1, Data: []byte{1}}, api.ErrField},
		{api.Packet{Proto: names, Code: 2, Two: []byte{1}}, api.ErrField},
		{api.Packet{Proto: names, Code: 4, One: []byte{1}}, api.ErrField},
		{api.Packet{Proto: names, Code: 1, One: make([]byte, 256)}, api.ErrLong},
		{api.Packet{Proto: names, Code: 1, Two: make([]byte, 256)}, api.ErrLong},
		{api.Packet{Proto: names, Code: 4, Data: make([]byte, most+1)}, api.ErrLong},
		{api.Packet{Proto: asks, Code: 1, Data: []byte{1}}, api.ErrField},
		{api.Packet{Proto: asks, Code: 3, One: []byte{1}}, api.ErrField},
		{api.Packet{Proto: asks, Code: 1, Two: []byte{1}}, api.ErrForm},
		{api.Packet{Proto: asks, Code: 2, One: make([]byte, 256)}, api.ErrLong},
		{api.Packet{Proto: asks, Code: 3, Data: make([]byte, most+1)}, api.ErrLong},
		{api.Packet{Proto: report, Code: 1, Nums: make([]uint32, 12)}, api.ErrField},
		{api.Packet{Proto: report, Data: []byte{1}, Nums: make([]uint32, 12)}, api.ErrField},
		{api.Packet{Proto: report}, api.ErrRange},
		{api.Packet{Proto: report, Nums: make([]uint32, 11)}, api.ErrRange},
		{api.Packet{Proto: report, Nums: make([]uint32, 13)}, api.ErrRange},
		{api.Packet{}, api.ErrHead},
		{api.Packet{Proto: 0xff}, api.ErrHead},
	}
	for _, proto := range others() {
		for _, set := range aliens() {
			p := api.Packet{Proto: proto, Data: []byte{1, 2}}
			set(&p)
			out = append(out, wrong{p, api.ErrField})
		}
	}
	return out
}

// aliens are what sets each field, but Proto and Data, to what isn't nothing.
func aliens() []func(p *api.Packet) {
	out := []func(p *api.Packet){
		func(p *api.Packet) { p.Opts = []api.Opt{{}} },
		func(p *api.Packet) { p.Opts = []api.Opt{opt(1, 2), {Type: 7}} },
		func(p *api.Packet) { p.One = []byte{0} },
		func(p *api.Packet) { p.One = make([]byte, 300) },
		func(p *api.Packet) { p.Two = []byte{0} },
		func(p *api.Packet) { p.Two = []byte{1, 2} },
		func(p *api.Packet) { p.Nums = []uint32{0} },
		func(p *api.Packet) { p.Nums = make([]uint32, 12) },
	}
	for i := range 8 {
		out = append(out, func(p *api.Packet) { p.Code = 1 << i }, func(p *api.Packet) { p.ID = 1 << i })
	}
	for i := range 16 {
		out = append(out, func(p *api.Packet) { p.Sub = 1 << i })
	}
	for i := range 32 {
		out = append(out, func(p *api.Packet) { p.Magic = 1 << i })
	}
	return out
}

// few gives at most some 16 octets, so that what fails can be read.
func few(b []byte) []byte { return b[:min(len(b), 16)] }

// brief gives a packet of which what fails can be read.
func brief(p api.Packet) api.Packet {
	p.Opts = slices.Clone(p.Opts[:min(len(p.Opts), 3)])
	for i, o := range p.Opts {
		p.Opts[i].Data = few(o.Data)
	}
	p.One, p.Two, p.Data = few(p.One), few(p.Two), few(p.Data)
	p.Nums = p.Nums[:min(len(p.Nums), 13)]
	return p
}

// checkPut holds what Put answers against what is wanted.
func checkPut(t *testing.T, p api.Packet, want []byte) {
	t.Helper()
	if b, errno := body.Put(p); errno != api.OK || !bytes.Equal(b, want) {
		t.Errorf("Put(%v) = %d octets, % x.., %d, want %d, % x..", brief(p), len(b), few(b), errno, len(want), few(want))
	}
}

// checkPutWrong wants that Put answers an error, and (K3) no octets.
func checkPutWrong(t *testing.T, p api.Packet, code api.Errno) {
	t.Helper()
	if b, errno := body.Put(p); errno != code || len(b) != 0 {
		t.Errorf("Put(%v) = %d octets, % x.., %d, want none, %d", brief(p), len(b), few(b), errno, code)
	}
}

// checkPutModel holds what Put answers against the chapter's words.
func checkPutModel(t *testing.T, p api.Packet) {
	t.Helper()
	if want, errno := put(p); errno != api.OK {
		checkPutWrong(t, p, errno)
	} else {
		checkPut(t, p, want)
	}
}

// checkGet holds what Get answers against what is wanted.
func checkGet(t *testing.T, proto uint16, b []byte, want api.Packet, code api.Errno) {
	t.Helper()
	if p, errno := body.Get(proto, b); errno != code || !alike(p, want) {
		t.Errorf("Get(%x, %d octets, % x..) = %v, %d, want %v, %d", proto, len(b), few(b), brief(p), errno, brief(want), code)
	}
}

// checkRead wants that octets are read as a packet.
func checkRead(t *testing.T, b []byte, want api.Packet) {
	t.Helper()
	checkGet(t, want.Proto, b, want, api.OK)
}

// checkWrong wants that Get answers an error, and (K3) the zero packet.
func checkWrong(t *testing.T, proto uint16, b []byte, code api.Errno) {
	t.Helper()
	checkGet(t, proto, b, api.Packet{}, code)
}

// checkGetModel holds what Get answers against the chapter's words.
func checkGetModel(t *testing.T, proto uint16, b []byte) {
	t.Helper()
	want, errno := get(proto, b)
	checkGet(t, proto, b, want, errno)
}

// checkCheck holds what Check answers, by a config of this MRU, against what is
// wanted.
func checkCheck(t *testing.T, mru int, p api.Packet, code api.Errno) {
	t.Helper()
	if errno := body.Check(api.Config{MRU: mru}, p); errno != code {
		t.Errorf("Check(an MRU of %d, %v) = %d, want %d", mru, brief(p), errno, code)
	}
}

// checkSame holds what Same answers, either way round, against what is wanted.
func checkSame(t *testing.T, a, b api.Packet, want bool) {
	t.Helper()
	if body.Same(a, b) != want || body.Same(b, a) != want {
		t.Errorf("Same(%v, %v) isn't %v, one way round or the other", brief(a), brief(b), want)
	}
}

// P20.1: Put.

func TestPutOfKnownPackets(t *testing.T) {
	for _, x := range []struct {
		p    api.Packet
		want []byte
	}{
		{api.Packet{Proto: api.IP, Data: []byte{1, 2}}, []byte{1, 2}},
		{api.Packet{Proto: api.IP}, nil},
		{api.Packet{Proto: api.MP, Data: []byte{0xc0, 0, 0, 0, 5}}, []byte{0xc0, 0, 0, 0, 5}},
		{api.Packet{Proto: 0xfeff, Data: []byte{0}}, []byte{0}},
		{api.Packet{Proto: api.LCP, Code: 5}, []byte{5, 0, 0, 4}},
		{api.Packet{Proto: api.LCP, Code: 1, ID: 2, Opts: []api.Opt{{Type: 1, Data: []byte{5, 0xdc}}, {Type: 7}}}, []byte{1, 2, 0, 10, 1, 4, 5, 0xdc, 7, 2}},
		{api.Packet{Proto: api.LCP, Code: 8, Sub: 0x8057, Data: []byte{9}}, []byte{8, 0, 0, 7, 0x80, 0x57, 9}},
		{api.Packet{Proto: api.LCP, Code: 9, Magic: 1}, []byte{9, 0, 0, 8, 0, 0, 0, 1}},
		{api.Packet{Proto: api.IPCP, Code: 1, Opts: []api.Opt{{Type: 3, Data: []byte{10, 0, 0, 1}}}}, []byte{1, 0, 0, 10, 3, 6, 10, 0, 0, 1}},
		{api.Packet{Proto: api.IPCP, Code: 8, Data: []byte{9}}, []byte{8, 0, 0, 5, 9}},
		{api.Packet{Proto: api.IPV6CP, Code: 1, Opts: []api.Opt{{Type: 1, Data: []byte{1, 2, 3, 4, 5, 6, 7, 8}}}}, []byte{1, 0, 0, 14, 1, 10, 1, 2, 3, 4, 5, 6, 7, 8}},
		{api.Packet{Proto: api.PAP, Code: 1, One: []byte("a"), Two: []byte("bc")}, []byte{1, 0, 0, 9, 1, 'a', 2, 'b', 'c'}},
		{api.Packet{Proto: api.PAP, Code: 2, ID: 7}, []byte{2, 7, 0, 5, 0}},
		{api.Packet{Proto: api.CHAP, Code: 1, One: []byte{7}, Two: []byte("a")}, []byte{1, 0, 0, 7, 1, 7, 'a'}},
		{api.Packet{Proto: api.CHAP, Code: 3, Data: []byte("ok")}, []byte{3, 0, 0, 6, 'o', 'k'}},
		{api.Packet{Proto: api.LQR, Nums: []uint32{1, 0, 0, 0, 0, 0, 0, 0, 0, 0, 0, 0x01020304}}, slices.Concat([]byte{0, 0, 0, 1}, make([]byte, 40), []byte{1, 2, 3, 4})},
	} {
		checkPut(t, x.p, x.want)
		checkRead(t, x.want, x.p)
	}
}

// Each number of 16 bits, by a packet that has Data alone.
func TestPutOfEachProtocol(t *testing.T) {
	for n := range 65536 {
		proto := uint16(n)
		p := api.Packet{Proto: proto, Data: []byte{1, 2, 3}}
		switch {
		case proto == report:
			checkPutWrong(t, p, api.ErrField)
		case slices.Contains(known(), proto):
			checkPut(t, p, []byte{0, 0, 0, 7, 1, 2, 3})
		case may(proto):
			checkPut(t, p, []byte{1, 2, 3})
		default:
			checkPutWrong(t, p, api.ErrHead)
		}
	}
}

func TestPutOfManyPackets(t *testing.T) {
	for _, p := range packets() {
		checkPut(t, p, written(t, p))
	}
}

func TestPutTellsEachLayersErrors(t *testing.T) {
	for _, x := range wrongs() {
		checkPutWrong(t, x.p, x.code)
		checkPutModel(t, x.p)
	}
}

// Of a layer's packet another layer, and of another protocol's this one, would tell
// otherwise.
func TestPutOfEachPacketByOtherProtocols(t *testing.T) {
	for _, p := range controls() {
		for _, proto := range append(known(), 0, 0x20, 0xff, 0x21, 0x57, 0xc021-1, 0xc121, 0xc221) {
			p.Proto = proto
			checkPutModel(t, p)
		}
	}
}

// K2: a number that may not be ahead of all else.
func TestPutTellsNumbersThatMayNotBeFirst(t *testing.T) {
	list := wrongs()
	for _, p := range packets() {
		list = append(list, wrong{p: p})
	}
	for _, x := range list {
		for _, proto := range []uint16{0, 1 << 8, 0x20, 0xff, 0xc020, 0xc022, 0xc121, 0xc123, 0xc024, 0x8121, 0xffff, 0xfffe} {
			x.p.Proto = proto
			checkPutWrong(t, x.p, api.ErrHead)
		}
	}
}

func TestPutTellsTwoFieldsThatOthersLack(t *testing.T) {
	for i, set := range aliens() {
		for _, add := range aliens()[i+1:] {
			for _, data := range [][]byte{nil, {1, 2, 3}} {
				p := api.Packet{Proto: api.IP, Data: data}
				set(&p)
				add(&p)
				checkPutWrong(t, p, api.ErrField)
			}
		}
	}
}

// K1: a list that is empty is nothing, as one that is nil.
func TestEmptyListsAreNothing(t *testing.T) {
	for _, p := range packets() {
		want := written(t, p)
		if len(p.Opts) == 0 {
			p.Opts = []api.Opt{}
		}
		if len(p.One) == 0 {
			p.One = make([]byte, 0, 9)
		}
		if len(p.Two) == 0 {
			p.Two = []byte{}
		}
		if len(p.Nums) == 0 {
			p.Nums = make([]uint32, 0, 12)
		}
		if len(p.Data) == 0 {
			p.Data = []byte{}
		}
		checkPut(t, p, want)
	}
}

// No layer bounds the Data of other protocols.
func TestPutOfMuchData(t *testing.T) {
	for _, n := range []int{most, most + 1, 65535, 65536, 65537, 1 << 20} {
		data := some(uint32(n), n)
		checkPut(t, api.Packet{Proto: api.IP, Data: data}, data)
		checkRead(t, data, api.Packet{Proto: api.IP, Data: data})
	}
}

// P20.1: Get.

// rowsOf are rows of octets, of which each protocol reads some.
func rowsOf() [][]byte {
	return [][]byte{
		nil, {}, {0}, {1}, {1, 2, 3}, {0, 0, 0}, {5, 0, 0, 3}, {5, 0, 0, 4}, {5, 0, 0, 5}, {1, 0, 0, 4}, {1, 9, 0, 4, 7},
		control(1, 1, 7, 2), control(1, 1, 8, 3, 1), control(1, 1, 3, 6, 1, 2, 3, 4), control(1, 1, 1, 1), control(1, 1, 1),
		control(1, 1, 1, 'a', 1, 'b'), control(2, 1, 1, 'a'), control(2, 1, 1, 'a', 9), control(2, 1, 0), control(3, 1, 3, 1),
		control(8, 1, 0xc0, 0x25), control(8, 1, 0xc0), control(9, 1, 0, 0, 0, 1), control(9, 1, 0, 0, 0),
		control(77, 1, some(1, 40)...), control(1, 1, some(2, 40)...), make([]byte, 47), make([]byte, 48), some(3, 48), some(4, 60),
	}
}

func TestGetOfEachProtocol(t *testing.T) {
	row := slices.Concat([]byte{0, 0, 0, 7, 1, 2, 3}, make([]byte, 50))
	for n := range 65536 {
		proto := uint16(n)
		switch {
		case proto == report:
			checkRead(t, row, api.Packet{Proto: proto, Nums: []uint32{7, 0x01020300, 0, 0, 0, 0, 0, 0, 0, 0, 0, 0}})
		case slices.Contains(known(), proto):
			checkRead(t, row, api.Packet{Proto: proto, Data: []byte{1, 2, 3}})
		case may(proto):
			checkRead(t, row, api.Packet{Proto: proto, Data: row})
		default:
			checkWrong(t, proto, row, api.ErrHead)
		}
		for _, b := range rowsOf()[:8] {
			checkGetModel(t, proto, b)
		}
	}
}

func TestGetOfManyRows(t *testing.T) {
	for _, proto := range append(append(known(), others()...), 0, 0x20, 0xff, 0xc020, 0xc121) {
		for i, b := range rowsOf() {
			checkGetModel(t, proto, b)
			for n := range len(b) {
				checkGetModel(t, proto, b[:n])
			}
			checkGetModel(t, proto, slices.Concat(b, some(uint32(i), 70)))
		}
	}
}

func TestGetTellsEachLayersErrors(t *testing.T) {
	for _, x := range []struct {
		proto uint16
		b     []byte
		code  api.Errno
	}{
		{api.LCP, nil, api.ErrShort},
		{api.LCP, []byte{5, 0, 0}, api.ErrShort},
		{api.LCP, []byte{5, 0, 0, 3}, api.ErrForm},
		{api.LCP, []byte{5, 0, 0, 5}, api.ErrShort},
		{api.LCP, control(1, 0, 1, 3, 9), api.ErrForm},
		{api.LCP, control(1, 0, 1, 4, 5), api.ErrShort},
		{api.LCP, control(8, 0, 1), api.ErrShort},
		{api.LCP, control(9, 0, 1, 2, 3), api.ErrShort},
		{api.IPCP, []byte{1, 0, 0, 3}, api.ErrForm},
		{api.IPCP, control(1, 0, 3, 3, 9), api.ErrForm},
		{api.IPCP, control(1, 0, 3), api.ErrShort},
		{api.IPV6CP, nil, api.ErrShort},
		{api.IPV6CP, control(1, 0, 1, 4, 1, 2), api.ErrForm},
		{api.PAP, nil, api.ErrShort},
		{api.PAP, control(1, 0, 0), api.ErrShort},
		{api.PAP, control(2, 0, 0, 9), api.ErrForm},
		{api.CHAP, []byte{1, 0, 0, 0}, api.ErrForm},
		{api.CHAP, control(1, 0), api.ErrShort},
		{api.CHAP, control(1, 0, 0), api.ErrForm},
		{api.CHAP, control(2, 0, 2, 1), api.ErrShort},
		{api.LQR, nil, api.ErrShort},
		{api.LQR, make([]byte, 47), api.ErrShort},
		{0, nil, api.ErrHead},
		{0xff, []byte{1}, api.ErrHead},
		{api.LCP - 1, []byte{5, 0, 0, 4}, api.ErrHead},
	} {
		checkWrong(t, x.proto, x.b, x.code)
	}
}

func TestGetOfPacketsThatAreCutOff(t *testing.T) {
	for _, p := range packets() {
		b := written(t, p)
		for n := range min(len(b), 70) {
			if slices.Contains(known(), p.Proto) {
				checkWrong(t, p.Proto, b[:n], api.ErrShort)
				continue
			}
			checkRead(t, b[:n], api.Packet{Proto: p.Proto, Data: b[:n]})
		}
	}
}

// What stands behind counts for nothing; of other protocols nothing stands behind.
func TestGetOfWhateverStandsBehind(t *testing.T) {
	for i, p := range packets() {
		for _, tail := range [][]byte{nil, {0}, {255, 255}, {7, 2}, some(uint32(i), 1+i%60), make([]byte, 60)} {
			b := slices.Concat(written(t, p), tail)
			want := p
			if !slices.Contains(known(), p.Proto) {
				want.Data = b
			}
			checkRead(t, b, want)
		}
	}
}

// P20.2: Check.

func TestCheckOfKnownPackets(t *testing.T) {
	checkCheck(t, 64, api.Packet{Proto: api.IP}, api.OK)
	checkCheck(t, 64, api.Packet{Proto: api.IP, Data: make([]byte, 64)}, api.OK)
	checkCheck(t, 64, api.Packet{Proto: api.IP, Data: make([]byte, 65)}, api.ErrLong)
	checkCheck(t, 64, api.Packet{Proto: api.LCP, Code: 5, Data: make([]byte, 60)}, api.OK)
	checkCheck(t, 64, api.Packet{Proto: api.LCP, Code: 5, Data: make([]byte, 61)}, api.ErrLong)
	checkCheck(t, 64, api.Packet{Proto: api.LCP, Code: 9, Data: make([]byte, 56)}, api.OK)
	checkCheck(t, 64, api.Packet{Proto: api.LCP, Code: 9, Data: make([]byte, 57)}, api.ErrLong)
	checkCheck(t, 64, api.Packet{Proto: api.LCP, Code: 8, Data: make([]byte, 58)}, api.OK)
	checkCheck(t, 64, api.Packet{Proto: api.LCP, Code: 8, Data: make([]byte, 59)}, api.ErrLong)
	checkCheck(t, 64, api.Packet{Proto: api.LCP, Code: 1, Opts: []api.Opt{opt(99, 58)}}, api.OK)
	checkCheck(t, 64, api.Packet{Proto: api.LCP, Code: 1, Opts: []api.Opt{opt(99, 59)}}, api.ErrLong)
	checkCheck(t, 64, api.Packet{Proto: api.IPCP, Code: 1, Opts: slices.Repeat([]api.Opt{{}}, 30)}, api.OK)
	checkCheck(t, 64, api.Packet{Proto: api.IPCP, Code: 1, Opts: slices.Repeat([]api.Opt{{}}, 31)}, api.ErrLong)
	checkCheck(t, 64, api.Packet{Proto: api.PAP, Code: 1, One: make([]byte, 58)}, api.OK)
	checkCheck(t, 64, api.Packet{Proto: api.PAP, Code: 1, One: make([]byte, 30), Two: make([]byte, 29)}, api.ErrLong)
	checkCheck(t, 64, api.Packet{Proto: api.CHAP, Code: 1, One: make([]byte, 16), Two: make([]byte, 43)}, api.OK)
	checkCheck(t, 64, api.Packet{Proto: api.CHAP, Code: 1, One: make([]byte, 16), Two: make([]byte, 44)}, api.ErrLong)
	checkCheck(t, 64, api.Packet{Proto: api.LQR, Nums: make([]uint32, 12)}, api.OK)
	checkCheck(t, 65535, api.Packet{Proto: api.LCP, Code: 5, Data: make([]byte, most)}, api.OK)
	checkCheck(t, 65534, api.Packet{Proto: api.LCP, Code: 5, Data: make([]byte, most)}, api.ErrLong)
	checkCheck(t, 65535, api.Packet{Proto: api.IP, Data: make([]byte, 65535)}, api.OK)
	checkCheck(t, 65535, api.Packet{Proto: api.IP, Data: make([]byte, 65536)}, api.ErrLong)
	checkCheck(t, 64, api.Packet{}, api.ErrHead)
}

// mrus are MRUs that may be: the least, the greatest, and some in between.
func mrus() []int {
	return []int{64, 65, 66, 127, 128, 255, 256, 257, 576, 1499, 1500, 1501, 65534, 65535}
}

func TestCheckOfManyPackets(t *testing.T) {
	for _, p := range packets() {
		for _, mru := range mrus() {
			want := api.OK
			if len(written(t, p)) > mru {
				want = api.ErrLong
			}
			checkCheck(t, mru, p, want)
		}
	}
}

func TestCheckOfEachLengthAboutTheMRU(t *testing.T) {
	for _, mru := range mrus() {
		for _, n := range []int{mru - 5, mru - 4, mru - 3, mru - 1, mru, mru + 1, mru + 4, 2 * mru, mru + 65536} {
			whole, lead := api.OK, api.OK
			if n > mru {
				whole = api.ErrLong
			}
			if n+4 > mru {
				lead = api.ErrLong
			}
			for _, proto := range others() {
				checkCheck(t, mru, api.Packet{Proto: proto, Data: make([]byte, n)}, whole)
			}
			for _, proto := range []uint16{link, four, six, names, asks} {
				checkCheck(t, mru, api.Packet{Proto: proto, Code: 5, Data: make([]byte, n)}, lead)
			}
		}
	}
}

// K2: Put's error ahead of the MRU.
func TestCheckTellsPutsErrors(t *testing.T) {
	long := make([]byte, 65536)
	for _, mru := range mrus() {
		for _, x := range wrongs() {
			checkCheck(t, mru, x.p, x.code)
		}
		for _, set := range aliens() {
			p := api.Packet{Proto: api.IP, Data: long}
			set(&p)
			checkCheck(t, mru, p, api.ErrField)
		}
		checkCheck(t, mru, api.Packet{Proto: 0x20, Data: long}, api.ErrHead)
		checkCheck(t, mru, api.Packet{Proto: api.LCP, Code: 1, Data: long}, api.ErrField)
		checkCheck(t, mru, api.Packet{Proto: api.IPCP, Code: 1, Opts: slices.Repeat([]api.Opt{opt(3, 5)}, 70)}, api.ErrForm)
		checkCheck(t, mru, api.Packet{Proto: api.CHAP, Code: 1, Two: long}, api.ErrForm)
		checkCheck(t, mru, api.Packet{Proto: api.LQR, Nums: make([]uint32, 20)}, api.ErrRange)
	}
}

// Nothing of a config but its MRU plays a part.
func TestCheckGoesByTheMRUAlone(t *testing.T) {
	for n := range 16 {
		for _, m := range []uint32{0, 1, 0xffffffff, 0xa0000} {
			c := api.Config{Sync: n&1 != 0, Wide: n&2 != 0, ACFC: n&4 != 0, PFC: n&8 != 0, Send: m, Recv: ^m, MRU: 100}
			for _, x := range []wrong{
				{api.Packet{Proto: api.IP, Data: make([]byte, 100)}, api.OK},
				{api.Packet{Proto: api.IP, Data: make([]byte, 101)}, api.ErrLong},
				{api.Packet{Proto: api.LCP, Code: 5, Data: make([]byte, 96)}, api.OK},
				{api.Packet{Proto: api.LCP, Code: 5, Data: make([]byte, 97)}, api.ErrLong},
				{api.Packet{Proto: api.IP, Code: 1}, api.ErrField},
				{api.Packet{Proto: 0xff}, api.ErrHead},
			} {
				if errno := body.Check(c, x.p); errno != x.code {
					t.Errorf("Check(%v, %v) = %d, want %d", c, brief(x.p), errno, x.code)
				}
			}
		}
	}
}

// P20.2: Same.

// full gives a packet all of whose fields are something; none has it.
func full() api.Packet {
	return api.Packet{
		Proto: 0x1234, Code: 1, ID: 2, Opts: []api.Opt{{Type: 1, Data: []byte{5, 0xdc}}, {Type: 7}, {Type: 7, Data: []byte{0}}},
		Sub: 3, Magic: 4, One: []byte{1, 2}, Two: []byte{3, 4}, Data: []byte{5, 6}, Nums: []uint32{7, 8},
	}
}

// changes are what changes one field of the full packet, each in another way.
func changes() []func(p *api.Packet) {
	out := []func(p *api.Packet){
		func(p *api.Packet) { p.Opts = nil },
		func(p *api.Packet) { p.Opts = p.Opts[:2] },
		func(p *api.Packet) { p.Opts = p.Opts[1:] },
		func(p *api.Packet) { p.Opts = append(p.Opts, api.Opt{}) },
		func(p *api.Packet) { p.Opts[0].Type = 2 },
		func(p *api.Packet) { p.Opts[2].Type = 135 },
		func(p *api.Packet) { p.Opts[0].Data[1] = 0xdd },
		func(p *api.Packet) { p.Opts[0].Data = p.Opts[0].Data[:1] },
		func(p *api.Packet) { p.Opts[0].Data = append(p.Opts[0].Data, 0) },
		func(p *api.Packet) { p.Opts[2].Data = nil },
		func(p *api.Packet) { p.Opts[1].Data = []byte{0} },
		func(p *api.Packet) { p.Opts[0], p.Opts[1] = p.Opts[1], p.Opts[0] },
		func(p *api.Packet) { p.Nums = nil },
		func(p *api.Packet) { p.Nums = p.Nums[:1] },
		func(p *api.Packet) { p.Nums = append(p.Nums, 0) },
		func(p *api.Packet) { p.Nums[1] ^= 1 << 31 },
		func(p *api.Packet) { p.Nums[0] ^= 1 },
		func(p *api.Packet) { p.Nums[0], p.Nums[1] = 8, 7 },
	}
	for _, list := range []func(p *api.Packet) *[]byte{
		func(p *api.Packet) *[]byte { return &p.One },
		func(p *api.Packet) *[]byte { return &p.Two },
		func(p *api.Packet) *[]byte { return &p.Data },
	} {
		out = append(out,
			func(p *api.Packet) { *list(p) = nil },
			func(p *api.Packet) { *list(p) = (*list(p))[:1] },
			func(p *api.Packet) { *list(p) = (*list(p))[1:] },
			func(p *api.Packet) { *list(p) = append(*list(p), 0) },
			func(p *api.Packet) { (*list(p))[0] ^= 1 },
			func(p *api.Packet) { (*list(p))[1] ^= 128 },
		)
	}
	for i := range 8 {
		out = append(out, func(p *api.Packet) { p.Code ^= 1 << i }, func(p *api.Packet) { p.ID ^= 1 << i })
	}
	for i := range 16 {
		out = append(out, func(p *api.Packet) { p.Proto ^= 1 << i }, func(p *api.Packet) { p.Sub ^= 1 << i })
	}
	for i := range 32 {
		out = append(out, func(p *api.Packet) { p.Magic ^= 1 << i })
	}
	return out
}

// Each field counts: no two of the packets that one change makes are the same.
func TestSameOfEachField(t *testing.T) {
	checkSame(t, full(), full(), true)
	list := []api.Packet{full()}
	for _, change := range changes() {
		p := full()
		change(&p)
		list = append(list, p)
	}
	for i, a := range list {
		for j, b := range list {
			checkSame(t, a, b, i == j)
		}
		checkSame(t, a, copied(a), true)
	}
}

func TestSameOfFieldsThatAreNothingButOne(t *testing.T) {
	checkSame(t, api.Packet{}, api.Packet{}, true)
	for i, set := range aliens() {
		a, b := api.Packet{}, api.Packet{}
		set(&a)
		checkSame(t, a, b, false)
		set(&b)
		checkSame(t, a, b, true)
		aliens()[(i+1)%len(aliens())](&b)
		checkSame(t, a, b, false)
	}
	for n := 1; n < 65536; n++ {
		checkSame(t, api.Packet{Proto: uint16(n)}, api.Packet{}, false)
		checkSame(t, api.Packet{Proto: uint16(n)}, api.Packet{Proto: uint16(n)}, true)
	}
}

// No field is taken for another one.
func TestSameOfFieldsThatAreExchanged(t *testing.T) {
	list := []api.Packet{
		{Code: 1}, {ID: 1}, {Sub: 1}, {Magic: 1}, {Proto: 1}, {One: []byte{1}}, {Two: []byte{1}}, {Data: []byte{1}}, {Nums: []uint32{1}},
		{Opts: []api.Opt{{Type: 1}}}, {Opts: []api.Opt{{Data: []byte{1}}}}, {Opts: []api.Opt{{}}}, {Opts: []api.Opt{{}, {}}},
		{One: []byte{1}, Two: []byte{2, 3}}, {One: []byte{1, 2}, Two: []byte{3}}, {One: []byte{2, 3}, Two: []byte{1}},
		{Opts: []api.Opt{{Data: []byte{1, 2}}, {Data: []byte{3}}}}, {Opts: []api.Opt{{Data: []byte{1}}, {Data: []byte{2, 3}}}}, {},
	}
	for i, a := range list {
		for j, b := range list {
			checkSame(t, a, b, i == j)
		}
	}
}

func TestSameOfNoneAndEmpty(t *testing.T) {
	empty := api.Packet{Opts: []api.Opt{}, One: []byte{}, Two: make([]byte, 0, 9), Data: []byte{}, Nums: make([]uint32, 0, 9)}
	checkSame(t, empty, api.Packet{}, true)
	checkSame(t, api.Packet{Opts: []api.Opt{{Type: 7, Data: []byte{}}}}, api.Packet{Opts: []api.Opt{{Type: 7}}}, true)
	checkSame(t, api.Packet{Opts: []api.Opt{{Data: []byte{}}}}, empty, false)
}

func TestSameOfManyPackets(t *testing.T) {
	list := packets()
	for i, a := range list {
		checkSame(t, a, copied(a), true)
		for _, b := range list[max(i-20, 0):i] {
			checkSame(t, a, b, alike(a, b))
		}
	}
	for i := range list {
		checkSame(t, list[i], list[(i*7+3)%len(list)], alike(list[i], list[(i*7+3)%len(list)]))
	}
}

// Options may have more octets than can be written, too.
func TestSameOfLongLists(t *testing.T) {
	a := api.Packet{Proto: api.LCP, Opts: []api.Opt{opt(1, 70000)}, One: some(1, 70000), Two: some(2, 70000), Data: some(3, 1<<20), Nums: nums(4, 9000)}
	checkSame(t, a, copied(a), true)
	for _, spoil := range []func(p *api.Packet){
		func(p *api.Packet) { p.Opts[0].Data[69999] ^= 1 },
		func(p *api.Packet) { p.One[69999] ^= 1 },
		func(p *api.Packet) { p.Two[69999] ^= 1 },
		func(p *api.Packet) { p.Data[1<<20-1] ^= 1 },
		func(p *api.Packet) { p.Nums[8999] ^= 1 },
	} {
		b := copied(a)
		spoil(&b)
		checkSame(t, a, b, false)
	}
}

// P20.3: what is written, and read again.

func TestWhatIsWrittenIsRead(t *testing.T) {
	for _, p := range packets() {
		b, errno := body.Put(p)
		if errno != api.OK {
			t.Errorf("Put(%v): %d", brief(p), errno)
		}
		checkRead(t, b, p)
		got, _ := body.Get(p.Proto, b)
		checkSame(t, got, p, true)
	}
}

func TestWhatIsReadIsWrittenSo(t *testing.T) {
	for _, proto := range append(known(), others()...) {
		for i, b := range rowsOf() {
			p, errno := body.Get(proto, b)
			if errno != api.OK {
				continue
			}
			out, errno := body.Put(p)
			if errno != api.OK || !bytes.HasPrefix(b, out) {
				t.Errorf("what Get(%x, % x) read is written as % x, %d", proto, b, out, errno)
			}
			if !slices.Contains(known(), proto) && len(out) != len(b) {
				t.Errorf("of Get(%x, % x) but % x was read", proto, b, out)
			}
			checkRead(t, out, p)
			if slices.Contains(known(), proto) {
				checkRead(t, slices.Concat(out, some(uint32(i), 50)), p)
			}
		}
	}
}

// P4: unlike packets of a protocol have unlike writings.
func TestUnlikePacketsDiffer(t *testing.T) {
	type key struct {
		proto uint16
		b     string
	}
	seen := map[key]api.Packet{}
	for _, p := range packets() {
		b, _ := body.Put(p)
		k := key{p.Proto, string(b)}
		if other, ok := seen[k]; ok && !alike(p, other) {
			t.Errorf("%v and %v are both written as % x..", brief(p), brief(other), few(b))
		}
		seen[k] = p
	}
}

// K4 to K6: nothing is changed, kept, or read behind a list's length.

// withRoom gives octets in a memory that has more behind them.
func withRoom(b []byte) []byte {
	return slices.Concat(b, make([]byte, 60), bytes.Repeat([]byte{0xa5}, 60))[:len(b)]
}

// roomy gives the same packet in memory that has more behind each of its lists.
func roomy(p api.Packet) api.Packet {
	p.Opts = slices.Concat(p.Opts, []api.Opt{opt(3, 4), opt(2, 0)})[:len(p.Opts)]
	for i, o := range p.Opts {
		p.Opts[i].Data = withRoom(o.Data)
	}
	p.One, p.Two, p.Data = withRoom(p.One), withRoom(p.Two), withRoom(p.Data)
	p.Nums = slices.Concat(p.Nums, slices.Repeat([]uint32{0xa5a5a5a5}, 20))[:len(p.Nums)]
	return p
}

// whole gives a copy of all that the memory of a packet holds, room and all.
func whole(p api.Packet) api.Packet {
	p.Opts = slices.Clone(p.Opts[:cap(p.Opts)])
	for i, o := range p.Opts {
		p.Opts[i].Data = o.Data[:cap(o.Data)]
	}
	p.One, p.Two, p.Data = p.One[:cap(p.One)], p.Two[:cap(p.Two)], p.Data[:cap(p.Data)]
	p.Nums = p.Nums[:cap(p.Nums)]
	return copied(p)
}

// spoil overwrites octets, and what lies behind them in their memory.
func spoil(b []byte) {
	b = b[:cap(b)]
	for i := range b {
		b[i] ^= 0xa5
	}
}

// spoilAll overwrites the lists of a packet, and all that their memory holds.
func spoilAll(p api.Packet) {
	l := p.Opts[:cap(p.Opts)]
	for i := range l {
		spoil(l[i].Data)
		l[i] = api.Opt{Type: ^l[i].Type, Data: []byte{0xa5}}
	}
	n := p.Nums[:cap(p.Nums)]
	for i := range n {
		n[i] ^= 0xa5a5a5a5
	}
	spoil(p.One)
	spoil(p.Two)
	spoil(p.Data)
}

func TestNoRoomIsReadNorWritten(t *testing.T) {
	for _, p := range packets() {
		in, b := roomy(p), withRoom(written(t, p))
		before, octets := whole(in), bytes.Clone(b[:cap(b)])
		checkPut(t, in, written(t, p))
		checkRead(t, b, p)
		checkSame(t, in, p, true)
		checkCheck(t, max(64, len(b)), in, api.OK)
		if len(b) > 0 {
			// What is missing lies in the room.
			checkGetModel(t, p.Proto, b[:len(b)-1])
		}
		if !alike(whole(in), before) || !bytes.Equal(b[:cap(b)], octets) {
			t.Errorf("what was handed in of %v was changed", brief(p))
		}
	}
	// What tells two packets apart lies in the room of one.
	for _, change := range changes() {
		p := full()
		change(&p)
		checkSame(t, roomy(p), roomy(full()), false)
	}
}

func TestErrorsChangeNothingOfWhatIsHandedIn(t *testing.T) {
	for _, x := range wrongs() {
		in := roomy(x.p)
		before := whole(in)
		checkPutWrong(t, in, x.code)
		checkCheck(t, 1500, in, x.code)
		checkSame(t, in, api.Packet{Proto: 1}, false)
		if !alike(whole(in), before) {
			t.Errorf("what was handed in of %v was changed", brief(x.p))
		}
	}
}

func TestAnswersAreNewMemory(t *testing.T) {
	for _, p := range packets() {
		in, octets := copied(p), written(t, p)
		b, _ := body.Put(in)
		spoil(b)
		got, _ := body.Get(p.Proto, octets)
		spoilAll(got)
		if !alike(in, p) || !bytes.Equal(octets, written(t, p)) {
			t.Errorf("answers of %v share its memory", brief(p))
		}
		checkPut(t, in, written(t, p))
		checkRead(t, octets, p)
	}
}

func TestNothingIsKept(t *testing.T) {
	for _, p := range packets() {
		in, octets := copied(p), written(t, p)
		b, _ := body.Put(in)
		got, _ := body.Get(p.Proto, octets)
		spoilAll(in)
		spoil(octets)
		if !bytes.Equal(b, written(t, p)) || !alike(got, p) {
			t.Errorf("answers of %v changed with what was handed in", brief(p))
		}
	}
}

// Two answers share no memory, nor do two lists of one.
func TestEachListHasItsOwnMemory(t *testing.T) {
	for _, p := range packets() {
		one, _ := body.Put(p)
		two, _ := body.Put(p)
		spoil(one)
		got, _ := body.Get(p.Proto, written(t, p))
		again, _ := body.Get(p.Proto, written(t, p))
		spoilAll(got)
		if !bytes.Equal(two, written(t, p)) || !alike(again, p) {
			t.Errorf("two answers of %v share memory", brief(p))
		}
		spoil(again.One)
		spoil(again.Data)
		for i, o := range again.Opts {
			if i%2 == 0 {
				spoil(o.Data)
			}
		}
		for i, o := range again.Opts {
			if i%2 == 1 && !bytes.Equal(o.Data, p.Opts[i].Data) {
				t.Errorf("options of %v share memory", brief(p))
			}
		}
		if !bytes.Equal(again.Two, p.Two) {
			t.Errorf("lists of %v share memory", brief(p))
		}
	}
}

func TestNoRoomIsHandedOut(t *testing.T) {
	secret := bytes.Repeat([]byte{0xa5}, 60)
	for n := range 60 {
		data := slices.Concat(make([]byte, n), secret)[:n]
		b, _ := body.Put(api.Packet{Proto: api.IP, Data: data})
		got, _ := body.Get(api.IP, data)
		row := control(5, 0, data...)
		cut, _ := body.Get(api.LCP, slices.Concat(row, secret))
		for _, out := range [][]byte{b, got.Data, cut.Data} {
			if len(out) != n || bytes.Contains(out[n:cap(out)], []byte{0xa5}) {
				t.Errorf("% x has room that was handed in", out)
			}
		}
	}
}

// Errors leave nothing behind that a later call could tell.
func TestErrorsChangeNothing(t *testing.T) {
	list := packets()
	for i, x := range wrongs() {
		checkPutWrong(t, x.p, x.code)
		checkCheck(t, 64, x.p, x.code)
		checkWrong(t, 0xff, []byte{1}, api.ErrHead)
		checkWrong(t, api.LQR, []byte{1}, api.ErrShort)
		p := list[i*5%len(list)]
		checkPut(t, p, written(t, p))
		checkRead(t, written(t, p), p)
	}
}
