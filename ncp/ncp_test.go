package ncp_test

import (
	"bytes"
	"slices"
	"testing"

	"marline/api"
	"marline/ctl"
	"marline/ncp"
	"marline/opts"
)

// most is how many octets a control packet's data has at most.
const most = 65531

// The protocols that the chapter names.
const (
	ipcp   = 0x8021
	ipv6cp = 0x8057
)

// both are all protocols that configure networks.
func both() []uint16 { return []uint16{ipcp, ipv6cp} }

// some gives n octets that look like chance, but are the same in every run.
func some(seed uint32, n int) []byte {
	out := make([]byte, n)
	for i := range out {
		seed = seed*1664525 + 1013904223
		out[i] = byte(seed >> 24)
	}
	return out
}

// opt gives an option of a type that has n octets of data.
func opt(t byte, n int) api.Opt { return api.Opt{Type: t, Data: some(uint32(t), n)} }

// codes are all codes that a packet can have.
func codes() []byte {
	out := make([]byte, 256)
	for i := range out {
		out[i] = byte(i)
	}
	return out
}

// listing are the codes whose packets have options.
func listing() []byte { return []byte{1, 2, 3, 4} }

// listed says in the chapter's words whether a packet of a code has options.
func listed(code byte) bool { return slices.Contains(listing(), code) }

// full gives a packet of a protocol and a code that has all that its code has.
func full(proto uint16, code byte) api.Packet {
	p := api.Packet{Proto: proto, Code: code, ID: code * 7}
	if !listed(code) {
		p.Data = []byte{9, 8, 7}
		return p
	}
	p.Opts = []api.Opt{{Type: 3, Data: []byte{10, 0, 0, 1}}, {Type: 2, Data: []byte{0, 0x2d}}, {Type: 77, Data: []byte{1}}}
	return p
}

// longest gives a packet of a code other than 1 to 4 that has n octets of Data
// more than it may have.
func longest(proto uint16, code byte, n int) api.Packet {
	return api.Packet{Proto: proto, Code: code, ID: 1, Data: some(uint32(code), most+n)}
}

// list gives options that may be, of either protocol, of size octets in all, which
// is no less than 8.
func list(size int) []api.Opt {
	var out []api.Opt
	for size > 255+8 {
		out = append(out, opt(2, 253))
		size -= 255
	}
	if size > 255 {
		out = append(out, opt(3, 4))
		size -= 6
	}
	return append(out, opt(255, size-2))
}

// lists are lists of options that may be, of either protocol.
func lists() [][]api.Opt {
	out := [][]api.Opt{
		nil, {}, {{}}, {{}, {}}, {{Type: 255}}, {opt(3, 4)}, {opt(3, 4), opt(3, 4)}, {opt(1, 8)}, {opt(1, 8), opt(3, 4), opt(1, 8)},
		{opt(2, 2)}, {opt(2, 253), opt(2, 3)}, {opt(129, 4), opt(130, 4), opt(131, 4), opt(132, 4)},
		{opt(0, 253)}, {opt(6, 253), {}, opt(4, 253)}, {opt(128, 3), opt(133, 5)},
		{{Type: 3, Data: []byte{0, 0, 0, 0}}}, {{Type: 3, Data: []byte{2, 2, 3, 6}}, {Type: 4, Data: []byte{7, 2, 8, 2}}},
	}
	for _, size := range []int{252, 253, 254, 255, 256, 1500, 65530, 65531} {
		out = append(out, list(size))
	}
	return out
}

// datas are many Data.
func datas() [][]byte {
	out := [][]byte{
		nil, {}, {0}, {255}, {0, 0}, {3, 6, 10, 0, 0, 1}, {0x80, 0x21, 1, 0, 0, 4}, {9, 1, 0, 4}, make([]byte, 300),
		bytes.Repeat([]byte{255}, 300), some(1, 1500), some(2, 65530),
	}
	for n := range 40 {
		out = append(out, some(uint32(n), n))
	}
	return out
}

// packets are packets of both protocols that can be written, of each code.
func packets() []api.Packet {
	var out []api.Packet
	for _, proto := range both() {
		for _, code := range codes() {
			out = append(out, full(proto, code), api.Packet{Proto: proto, Code: code}, api.Packet{Proto: proto, Code: code, ID: 255})
		}
		for _, code := range listing() {
			for i, l := range lists() {
				out = append(out, api.Packet{Proto: proto, Code: code, ID: byte(i), Opts: l})
			}
		}
		for _, code := range []byte{0, 5, 6, 7, 8, 9, 10, 11, 12, 255} {
			for i, data := range datas() {
				out = append(out, api.Packet{Proto: proto, Code: code, ID: byte(i), Data: data})
			}
			out = append(out, longest(proto, code, 0), longest(proto, code, -1))
		}
	}
	return out
}

// rows calls f with each row of 0 to most octets of those that are told; it may
// not keep them.
func rows(octets []byte, most int, f func(b []byte)) {
	var grow func(b []byte)
	grow = func(b []byte) {
		f(b)
		if len(b) == most {
			return
		}
		for _, c := range octets {
			grow(append(b, c))
		}
	}
	grow(make([]byte, 0, most))
}

// control says how layer 13 writes a control packet.
func control(code, id byte, data []byte) []byte {
	n := len(data) + 4
	return slices.Concat([]byte{code, id, byte(n / 256), byte(n % 256)}, data)
}

// written says in the chapter's words how a packet that can be written is.
func written(p api.Packet) []byte {
	if !listed(p.Code) {
		return control(p.Code, p.ID, p.Data)
	}
	var data []byte
	for _, o := range p.Opts {
		data = append(append(data, o.Type, byte(len(o.Data)+2)), o.Data...)
	}
	return control(p.Code, p.ID, data)
}

// read says in the chapter's words which packet octets begin with.
func read(proto uint16, b []byte) (api.Packet, api.Errno) {
	if proto != ipcp && proto != ipv6cp {
		return api.Packet{}, api.ErrKind
	}
	code, id, data, errno := ctl.Get(b)
	if errno != api.OK {
		return api.Packet{}, errno
	}
	if !listed(code) {
		return api.Packet{Proto: proto, Code: code, ID: id, Data: data}, api.OK
	}
	l, errno := opts.Get(proto, data)
	if errno != api.OK {
		return api.Packet{}, errno
	}
	return api.Packet{Proto: proto, Code: code, ID: id, Opts: l}, api.OK
}

// told says in the chapter's words which address options tell.
func told(proto uint16, l []api.Opt) (uint64, bool) {
	for _, o := range l {
		four := proto == ipcp && o.Type == 3 && len(o.Data) == 4
		eight := proto == ipv6cp && o.Type == 1 && len(o.Data) == 8
		if !four && !eight {
			continue
		}
		n := uint64(0)
		for _, c := range o.Data {
			n = n*256 + uint64(c)
		}
		return n, true
	}
	return 0, false
}

// sameOpts tells whether two lists of options have the same types and data.
func sameOpts(a, b []api.Opt) bool {
	return slices.EqualFunc(a, b, func(a, b api.Opt) bool { return a.Type == b.Type && bytes.Equal(a.Data, b.Data) })
}

// alike tells whether two packets have the same fields, one by one.
func alike(a, b api.Packet) bool {
	return a.Proto == b.Proto && a.Code == b.Code && a.ID == b.ID && a.Sub == b.Sub && a.Magic == b.Magic &&
		sameOpts(a.Opts, b.Opts) && bytes.Equal(a.One, b.One) && bytes.Equal(a.Two, b.Two) &&
		bytes.Equal(a.Data, b.Data) && slices.Equal(a.Nums, b.Nums)
}

// copiedOpts gives the same options in memory of their own.
func copiedOpts(l []api.Opt) []api.Opt {
	l = slices.Clone(l)
	for i := range l {
		l[i].Data = bytes.Clone(l[i].Data)
	}
	return l
}

// copied gives the same packet in memory of its own.
func copied(p api.Packet) api.Packet {
	p.Opts = copiedOpts(p.Opts)
	p.One, p.Two, p.Data = bytes.Clone(p.One), bytes.Clone(p.Two), bytes.Clone(p.Data)
	p.Nums = slices.Clone(p.Nums)
	return p
}

// brief gives at most some 24 octets, so that what fails can be read.
func brief(b []byte) []byte { return b[:min(len(b), 24)] }

// short gives a packet of which what fails can be read.
func short(p api.Packet) api.Packet {
	p.Opts, p.Data = p.Opts[:min(len(p.Opts), 3)], brief(p.Data)
	return p
}

// checkPut holds what Put answers against what is wanted.
func checkPut(t *testing.T, p api.Packet, want []byte) {
	t.Helper()
	if b, errno := ncp.Put(p); errno != api.OK || !bytes.Equal(b, want) {
		t.Errorf("Put(%v) = %d octets, % x.., %d, want %d, % x..", short(p), len(b), brief(b), errno, len(want), brief(want))
	}
}

// checkPutWrong wants that Put answers an error, and (K3) no octets.
func checkPutWrong(t *testing.T, p api.Packet, code api.Errno) {
	t.Helper()
	if b, errno := ncp.Put(p); errno != code || len(b) != 0 {
		t.Errorf("Put(%v) = %d octets, % x.., %d, want none, %d", short(p), len(b), brief(b), errno, code)
	}
}

// checkGet holds what Get answers against what is wanted.
func checkGet(t *testing.T, proto uint16, b []byte, want api.Packet, code api.Errno) {
	t.Helper()
	if p, errno := ncp.Get(proto, b); errno != code || !alike(p, want) {
		t.Errorf("Get(%x, %d octets, % x..) = %v, %d, want %v, %d", proto, len(b), brief(b), short(p), errno, short(want), code)
	}
}

// checkRead wants that octets are read as a packet.
func checkRead(t *testing.T, b []byte, want api.Packet) {
	t.Helper()
	checkGet(t, want.Proto, b, want, api.OK)
}

// checkWrong wants that Get answers an error, and (K3) nothing else.
func checkWrong(t *testing.T, proto uint16, b []byte, code api.Errno) {
	t.Helper()
	checkGet(t, proto, b, api.Packet{}, code)
}

// checkModel holds what Get answers against the chapter's words.
func checkModel(t *testing.T, b []byte) {
	t.Helper()
	for _, proto := range both() {
		want, errno := read(proto, b)
		checkGet(t, proto, b, want, errno)
	}
}

// checkAddress holds what Address answers against what is wanted.
func checkAddress(t *testing.T, proto uint16, l []api.Opt, want uint64, is bool) {
	t.Helper()
	if n, ok := ncp.Address(proto, l); n != want || ok != is {
		t.Errorf("Address(%x, %v..) = %x, %v, want %x, %v", proto, l[:min(len(l), 5)], n, ok, want, is)
	}
}

// P16.1: Is, Put.

func TestIsOfEachProtocol(t *testing.T) {
	for n := range 65536 {
		want := n == 0x8021 || n == 0x8057
		if is := ncp.Is(uint16(n)); is != want {
			t.Errorf("Is(%x) = %v", n, is)
		}
	}
}

func TestPutOfKnownPackets(t *testing.T) {
	for _, x := range []struct {
		p    api.Packet
		want []byte
	}{
		{api.Packet{Proto: api.IPCP, Code: 1, Opts: []api.Opt{{Type: 3, Data: []byte{10, 0, 0, 1}}}},
			[]byte{0x01, 0x00, 0x00, 0x0a, 0x03, 0x06, 0x0a, 0x00, 0x00, 0x01}},
		{api.Packet{Proto: api.IPCP}, []byte{0x00, 0x00, 0x00, 0x04}},
		{api.Packet{Proto: api.IPV6CP}, []byte{0x00, 0x00, 0x00, 0x04}},
		{api.Packet{Proto: api.IPCP, Code: 2, ID: 8, Opts: []api.Opt{}}, []byte{0x02, 0x08, 0x00, 0x04}},
		{api.Packet{Proto: api.IPCP, Code: 3, ID: 9, Opts: []api.Opt{{Type: 2, Data: []byte{0, 0x2d, 15, 1}}, {Type: 129, Data: []byte{8, 8, 4, 4}}}},
			[]byte{0x03, 0x09, 0x00, 0x10, 0x02, 0x06, 0x00, 0x2d, 0x0f, 0x01, 0x81, 0x06, 0x08, 0x08, 0x04, 0x04}},
		{api.Packet{Proto: api.IPV6CP, Code: 1, ID: 7, Opts: []api.Opt{{Type: 1, Data: []byte{2, 0, 0, 0xff, 0xfe, 0, 0, 1}}}},
			[]byte{0x01, 0x07, 0x00, 0x0e, 0x01, 0x0a, 0x02, 0x00, 0x00, 0xff, 0xfe, 0x00, 0x00, 0x01}},
		{api.Packet{Proto: api.IPV6CP, Code: 4, ID: 10, Opts: []api.Opt{{Type: 3}}}, []byte{0x04, 0x0a, 0x00, 0x06, 0x03, 0x02}},
		{api.Packet{Proto: api.IPCP, Code: 5, ID: 1, Data: []byte("bye")}, []byte{0x05, 0x01, 0x00, 0x07, 0x62, 0x79, 0x65}},
		{api.Packet{Proto: api.IPV6CP, Code: 6, ID: 1, Data: []byte{}}, []byte{0x06, 0x01, 0x00, 0x04}},
		{api.Packet{Proto: api.IPCP, Code: 7, ID: 1, Data: []byte{0xfe, 2, 0, 4}},
			[]byte{0x07, 0x01, 0x00, 0x08, 0xfe, 0x02, 0x00, 0x04}},
		{api.Packet{Proto: api.IPV6CP, Code: 8, ID: 2, Data: []byte{0x80, 0x57, 1}}, []byte{0x08, 0x02, 0x00, 0x07, 0x80, 0x57, 0x01}},
		{api.Packet{Proto: api.IPCP, Code: 9, ID: 3, Data: []byte{1}}, []byte{0x09, 0x03, 0x00, 0x05, 0x01}},
		{api.Packet{Proto: api.IPV6CP, Code: 255, ID: 254, Data: []byte{253}}, []byte{0xff, 0xfe, 0x00, 0x05, 0xfd}},
	} {
		checkPut(t, x.p, x.want)
	}
}

func TestPutOfEachCodeAndIdentifier(t *testing.T) {
	for _, proto := range both() {
		for _, code := range codes() {
			for id := range 256 {
				p := full(proto, code)
				p.ID = byte(id)
				checkPut(t, p, written(p))
			}
		}
	}
}

func TestPutOfManyPackets(t *testing.T) {
	for _, p := range packets() {
		checkPut(t, p, written(p))
	}
}

func TestPutTellsOtherProtocols(t *testing.T) {
	for n := range 65536 {
		if n == ipcp || n == ipv6cp {
			continue
		}
		for _, code := range []byte{0, 1, 5} {
			checkPutWrong(t, full(uint16(n), code), api.ErrKind)
		}
	}
}

// alien sets a field that a code may have, or may not.
type alien struct {
	may bool
	set func(p *api.Packet)
}

// aliens are what sets each field to what isn't nothing.
func aliens(code byte) []alien {
	l := listed(code)
	return []alien{
		{l, func(p *api.Packet) { p.Opts = []api.Opt{{}} }},
		{l, func(p *api.Packet) { p.Opts = []api.Opt{opt(3, 4), opt(7, 0)} }},
		{!l, func(p *api.Packet) { p.Data = []byte{0} }},
		{!l, func(p *api.Packet) { p.Data = []byte{7, 2} }},
		{false, func(p *api.Packet) { p.Sub = 1 }},
		{false, func(p *api.Packet) { p.Sub = 0x8000 }},
		{false, func(p *api.Packet) { p.Magic = 1 }},
		{false, func(p *api.Packet) { p.Magic = 1 << 16 }},
		{false, func(p *api.Packet) { p.Magic = 1 << 31 }},
		{false, func(p *api.Packet) { p.One = []byte{0} }},
		{false, func(p *api.Packet) { p.One = []byte{1, 2} }},
		{false, func(p *api.Packet) { p.Two = []byte{0} }},
		{false, func(p *api.Packet) { p.Two = []byte{1, 2} }},
		{false, func(p *api.Packet) { p.Nums = []uint32{0} }},
		{false, func(p *api.Packet) { p.Nums = make([]uint32, 12) }},
	}
}

func TestPutTellsFieldsThatACodeLacks(t *testing.T) {
	for _, proto := range both() {
		for _, code := range codes() {
			for _, x := range aliens(code) {
				for _, p := range []api.Packet{full(proto, code), {Proto: proto, Code: code}} {
					x.set(&p)
					if x.may {
						checkPut(t, p, written(p))
						continue
					}
					checkPutWrong(t, p, api.ErrField)
				}
			}
		}
	}
}

func TestPutTellsTwoFieldsThatACodeLacks(t *testing.T) {
	for _, proto := range both() {
		for _, code := range codes() {
			for i, x := range aliens(code) {
				for _, y := range aliens(code)[i+1:] {
					p := full(proto, code)
					x.set(&p)
					y.set(&p)
					if x.may && y.may {
						checkPut(t, p, written(p))
						continue
					}
					checkPutWrong(t, p, api.ErrField)
				}
			}
		}
	}
}

// K1: a list that is empty is nothing, as one that is nil.
func TestEmptyListsAreNothing(t *testing.T) {
	for _, proto := range both() {
		for _, code := range codes() {
			p := full(proto, code)
			want := written(p)
			p.One, p.Two, p.Nums = []byte{}, []byte{}, []uint32{}
			if listed(code) {
				p.Data = make([]byte, 0, 9)
			} else {
				p.Opts = make([]api.Opt, 0, 9)
			}
			checkPut(t, p, want)
		}
	}
}

// fitting says whether an option's data may have so many octets in a protocol.
func fitting(proto uint16, kind byte, n int) bool {
	switch {
	case kind == 2:
		return n >= 2 && n <= 253
	case proto == ipv6cp && kind == 1:
		return n == 8
	case proto == ipcp && (kind == 3 || kind >= 129 && kind <= 132):
		return n == 4
	}
	return n <= 253
}

func TestPutOfEachTypeAndLengthOfAnOption(t *testing.T) {
	for _, proto := range both() {
		for _, code := range listing() {
			for _, kind := range codes() {
				for _, n := range []int{0, 1, 2, 3, 4, 5, 7, 8, 9, 252, 253, 254, 255, 256, 300} {
					p := api.Packet{Proto: proto, Code: code, Opts: []api.Opt{opt(kind, n)}}
					if fitting(proto, kind, n) {
						checkPut(t, p, written(p))
						continue
					}
					checkPutWrong(t, p, api.ErrForm)
				}
			}
		}
	}
}

func TestPutTellsAnOptionThatMayNotBeWhereverItStands(t *testing.T) {
	for _, proto := range both() {
		wrong := []api.Opt{opt(2, 1), opt(0, 254), opt(3, 254), opt(1, 300)}
		for _, code := range listing() {
			for at := range 5 {
				for _, o := range wrong {
					p := api.Packet{Proto: proto, Code: code, Opts: make([]api.Opt, 5)}
					p.Opts[at] = o
					checkPutWrong(t, p, api.ErrForm)
				}
			}
		}
	}
}

// Options are those of the packet's protocol: what may be of another one may not here.
func TestOptionsAreThoseOfTheProtocol(t *testing.T) {
	for _, code := range listing() {
		for _, x := range []struct {
			o     api.Opt
			right []uint16
		}{
			{opt(1, 8), both()},
			{opt(1, 2), []uint16{ipcp}},
			{opt(1, 0), []uint16{ipcp}},
			{opt(3, 4), both()},
			{opt(3, 2), []uint16{ipv6cp}},
			{opt(3, 0), []uint16{ipv6cp}},
			{opt(129, 5), []uint16{ipv6cp}},
			{opt(132, 0), []uint16{ipv6cp}},
			{opt(5, 3), both()},
			{opt(7, 1), both()},
			{opt(2, 4), both()},
			{opt(2, 0), nil},
		} {
			for _, proto := range both() {
				p := api.Packet{Proto: proto, Code: code, Opts: []api.Opt{x.o}}
				if slices.Contains(x.right, proto) {
					checkPut(t, p, written(p))
					checkRead(t, written(p), p)
					continue
				}
				checkPutWrong(t, p, api.ErrForm)
				checkWrong(t, proto, written(p), api.ErrForm)
			}
		}
	}
}

func TestPutTellsDataThatIsLong(t *testing.T) {
	for _, proto := range both() {
		for _, code := range codes() {
			if listed(code) {
				continue
			}
			checkPut(t, longest(proto, code, 0), written(longest(proto, code, 0)))
			for _, n := range []int{1, 2, 4, 5, 100000} {
				checkPutWrong(t, longest(proto, code, n), api.ErrLong)
			}
		}
	}
}

func TestPutTellsOptionsThatAreLong(t *testing.T) {
	for _, proto := range both() {
		for _, code := range listing() {
			for size := most - 10; size < most+10; size++ {
				p := api.Packet{Proto: proto, Code: code, ID: 1, Opts: list(size)}
				if size > most {
					checkPutWrong(t, p, api.ErrLong)
					continue
				}
				checkPut(t, p, written(p))
			}
			checkPutWrong(t, api.Packet{Proto: proto, Code: code, Opts: make([]api.Opt, 32766)}, api.ErrLong)
			checkPutWrong(t, api.Packet{Proto: proto, Code: code, Opts: make([]api.Opt, 70000)}, api.ErrLong)
			p := api.Packet{Proto: proto, Code: code, Opts: make([]api.Opt, 32765)}
			checkPut(t, p, written(p))
		}
	}
}

// K2: of several errors the one that the chapter names first is told.

func TestPutOfOptionsTellsTheFirstError(t *testing.T) {
	long, wrong := list(most+1), []api.Opt{opt(2, 1)}
	all := slices.Concat(long, wrong)
	for _, code := range listing() {
		for _, proto := range both() {
			checkPutWrong(t, api.Packet{Proto: proto, Code: code, Opts: all}, api.ErrForm)
			checkPutWrong(t, api.Packet{Proto: proto, Code: code, Opts: slices.Concat(wrong, long)}, api.ErrForm)
			checkPutWrong(t, api.Packet{Proto: proto, Code: code, Opts: all, Data: []byte{1}}, api.ErrField)
			checkPutWrong(t, api.Packet{Proto: proto, Code: code, Opts: wrong, Magic: 1}, api.ErrField)
			checkPutWrong(t, api.Packet{Proto: proto, Code: code, Opts: long, Sub: 1}, api.ErrField)
			checkPutWrong(t, api.Packet{Proto: proto, Code: code, Data: make([]byte, most+1)}, api.ErrField)
		}
		for _, proto := range []uint16{0, api.LCP, api.PAP, api.IP, 0x8020, 0x8022, 0x8056, 0x8058} {
			checkPutWrong(t, api.Packet{Proto: proto, Code: code, Opts: all, Data: []byte{1}}, api.ErrKind)
			checkPutWrong(t, api.Packet{Proto: proto, Code: code, Opts: wrong}, api.ErrKind)
			checkPutWrong(t, api.Packet{Proto: proto, Code: code, Opts: long}, api.ErrKind)
			checkPutWrong(t, api.Packet{Proto: proto, Code: code, Magic: 1}, api.ErrKind)
		}
	}
}

func TestPutOfDataTellsTheFirstError(t *testing.T) {
	for _, proto := range both() {
		for _, code := range []byte{0, 5, 8, 9, 10, 11, 12, 255} {
			for _, o := range []api.Opt{{}, opt(2, 1)} {
				p := longest(proto, code, 1)
				p.Opts = []api.Opt{o}
				checkPutWrong(t, p, api.ErrField)
				p.Proto = api.LCP
				checkPutWrong(t, p, api.ErrKind)
				p.Opts = nil
				checkPutWrong(t, p, api.ErrKind)
			}
		}
	}
}

// P16.2: Get.

func TestGetOfKnownOctets(t *testing.T) {
	for _, x := range []struct {
		b    []byte
		want api.Packet
	}{
		{[]byte{1, 0, 0, 10, 3, 6, 10, 0, 0, 1}, api.Packet{Proto: api.IPCP, Code: 1,
			Opts: []api.Opt{{Type: 3, Data: []byte{10, 0, 0, 1}}}}},
		{[]byte{2, 7, 0, 10, 3, 6, 10, 0, 0, 1, 2, 1}, api.Packet{Proto: api.IPV6CP, Code: 2, ID: 7,
			Opts: []api.Opt{{Type: 3, Data: []byte{10, 0, 0, 1}}}}},
		{[]byte{3, 7, 0, 14, 1, 10, 1, 2, 3, 4, 5, 6, 7, 8}, api.Packet{Proto: api.IPV6CP, Code: 3, ID: 7,
			Opts: []api.Opt{{Type: 1, Data: []byte{1, 2, 3, 4, 5, 6, 7, 8}}}}},
		{[]byte{4, 255, 0, 10, 1, 4, 1, 0, 8, 2, 7, 2}, api.Packet{Proto: api.IPCP, Code: 4, ID: 255,
			Opts: []api.Opt{{Type: 1, Data: []byte{1, 0}}, {Type: 8}}}},
		{[]byte{1, 2, 0, 4, 1}, api.Packet{Proto: api.IPCP, Code: 1, ID: 2}},
		{[]byte{0, 0, 0, 4}, api.Packet{Proto: api.IPCP}},
		{[]byte{0, 0, 0, 6, 1, 1}, api.Packet{Proto: api.IPV6CP, Data: []byte{1, 1}}},
		{[]byte{5, 0, 0, 7, 3, 3, 5}, api.Packet{Proto: api.IPCP, Code: 5, Data: []byte{3, 3, 5}}},
		{[]byte{7, 1, 0, 6, 0x80, 0x21, 9}, api.Packet{Proto: api.IPCP, Code: 7, ID: 1, Data: []byte{0x80, 0x21}}},
		{[]byte{8, 1, 0, 5, 0x80}, api.Packet{Proto: api.IPCP, Code: 8, ID: 1, Data: []byte{0x80}}},
		{[]byte{9, 1, 0, 8, 0, 0, 0, 1}, api.Packet{Proto: api.IPV6CP, Code: 9, ID: 1, Data: []byte{0, 0, 0, 1}}},
		{[]byte{10, 1, 0, 4}, api.Packet{Proto: api.IPV6CP, Code: 10, ID: 1}},
		{[]byte{255, 1, 0, 5, 1}, api.Packet{Proto: api.IPCP, Code: 255, ID: 1, Data: []byte{1}}},
	} {
		checkRead(t, x.b, x.want)
	}
}

func TestGetOfWrongOctets(t *testing.T) {
	for _, x := range []struct {
		b    []byte
		code api.Errno
	}{
		{nil, api.ErrShort},
		{[]byte{}, api.ErrShort},
		{[]byte{5}, api.ErrShort},
		{[]byte{5, 0, 0}, api.ErrShort},
		{[]byte{5, 0, 0, 0}, api.ErrForm},
		{[]byte{5, 0, 0, 3}, api.ErrForm},
		{[]byte{5, 0, 0, 3, 1, 2, 3, 4}, api.ErrForm},
		{[]byte{5, 0, 0, 5}, api.ErrShort},
		{[]byte{5, 0, 0, 9, 1, 2, 3, 4}, api.ErrShort},
		{[]byte{5, 0, 1, 4, 1, 2, 3, 4}, api.ErrShort},
		{[]byte{1, 0, 0, 5, 1}, api.ErrShort},
		{[]byte{1, 0, 0, 5, 8, 2}, api.ErrShort},
		{[]byte{1, 0, 0, 6, 1, 1}, api.ErrForm},
		{[]byte{2, 0, 0, 6, 7, 1}, api.ErrForm},
		{[]byte{2, 0, 0, 6, 7, 0}, api.ErrForm},
		{[]byte{3, 0, 0, 7, 2, 3, 0}, api.ErrForm},
		{[]byte{3, 0, 0, 6, 2, 2}, api.ErrForm},
		{[]byte{4, 0, 0, 7, 3, 6, 5}, api.ErrShort},
		{[]byte{4, 0, 0, 7, 3, 6, 5, 6, 7, 8}, api.ErrShort},
		{[]byte{1, 0, 0, 8, 2, 3, 5, 7}, api.ErrShort},
		{[]byte{1, 0, 0, 9, 2, 3, 5, 7, 1}, api.ErrForm},
		{[]byte{1, 0, 0, 3, 2, 3, 5}, api.ErrForm},
		{[]byte{1, 0, 0, 8, 2, 3, 0}, api.ErrShort},
	} {
		for _, proto := range both() {
			checkWrong(t, proto, x.b, x.code)
		}
	}
}

// An error of another protocol goes ahead of all that is wrong with octets.
func TestGetTellsOtherProtocols(t *testing.T) {
	for n := range 65536 {
		if n == ipcp || n == ipv6cp {
			continue
		}
		for _, b := range [][]byte{
			nil, {1}, {1, 0, 0, 3}, {1, 0, 0, 5}, {1, 0, 0, 5, 3}, {1, 0, 0, 6, 2, 2},
			{1, 0, 0, 4}, {5, 0, 0, 5, 1}, {1, 0, 0, 10, 3, 6, 10, 0, 0, 1},
		} {
			checkWrong(t, uint16(n), b, api.ErrKind)
		}
	}
}

func TestGetOfEachTypeAndLengthOfAnOption(t *testing.T) {
	for _, proto := range both() {
		for _, code := range listing() {
			for _, kind := range codes() {
				for n := range 254 {
					p := api.Packet{Proto: proto, Code: code, ID: 9, Opts: []api.Opt{opt(kind, n)}}
					if fitting(proto, kind, n) {
						checkRead(t, written(p), p)
						continue
					}
					checkWrong(t, proto, written(p), api.ErrForm)
				}
			}
		}
	}
}

// K2: an error of the control packet ahead of one of its options.
func TestGetTellsTheFirstError(t *testing.T) {
	for _, proto := range both() {
		for _, code := range codes() {
			for _, data := range [][]byte{{}, {7}, {7, 1}, {2, 2}, {2, 3, 0}, {2, 3, 0, 9}} {
				b := control(code, 1, data)
				for length := range 4 {
					b[3] = byte(length)
					checkWrong(t, proto, b, api.ErrForm)
				}
				b[3] = byte(len(b) + 1)
				checkWrong(t, proto, b, api.ErrShort)
				checkWrong(t, proto, b[:3], api.ErrShort)
			}
		}
	}
}

func TestGetOfAllShortRows(t *testing.T) {
	for _, code := range []byte{0, 1, 2, 3, 4, 5, 8, 9, 255} {
		rows([]byte{0, 1, 2, 3, 4, 6, 255}, 5, func(data []byte) {
			checkModel(t, control(code, 3, data))
			checkModel(t, slices.Concat([]byte{code}, data))
			checkModel(t, slices.Concat([]byte{code, 1, 0}, data))
		})
		rows([]byte{2, 3, 6}, 8, func(data []byte) { checkModel(t, control(code, 3, data)) })
	}
}

func TestGetOfManyRows(t *testing.T) {
	for _, code := range codes() {
		for n := range 60 {
			data := some(uint32(n), n)
			checkModel(t, control(code, byte(n), data))
			for i := range data {
				// Lengths that are small let many options be read.
				data[i] %= byte(n%9 + 4)
			}
			b := control(code, byte(n), data)
			checkModel(t, b)
			b[3] -= byte(n % 5)
			checkModel(t, b)
		}
	}
}

func TestGetOfPacketsThatAreCutOff(t *testing.T) {
	for _, p := range packets() {
		b := written(p)
		for n := range min(len(b), 60) {
			checkWrong(t, p.Proto, b[:n], api.ErrShort)
		}
		checkWrong(t, p.Proto, b[:len(b)-1], api.ErrShort)
	}
}

// What is written, and read again.

func TestWhatIsWrittenIsRead(t *testing.T) {
	for _, p := range packets() {
		b, errno := ncp.Put(p)
		if errno != api.OK {
			t.Errorf("Put(%v): %d", short(p), errno)
		}
		checkRead(t, b, p)
	}
}

func TestWhateverStandsBehindCountsForNothing(t *testing.T) {
	for i, p := range packets() {
		b := written(p)
		for _, tail := range [][]byte{{0}, {1}, {8, 2}, {2, 2}, {2, 3, 0}, {255, 255, 255, 255}, some(4, 300)} {
			checkRead(t, slices.Concat(b, tail), p)
		}
		if i%20 == 0 {
			checkRead(t, slices.Concat(b, b), p)
			checkRead(t, slices.Concat(b, make([]byte, 70000)), p)
		}
	}
}

func TestWhatIsReadHasNoOtherWriting(t *testing.T) {
	for _, proto := range both() {
		for _, code := range codes() {
			rows([]byte{0, 2, 3, 6, 9}, 5, func(data []byte) {
				b := slices.Concat(control(code, 1, data), []byte{2, 2})
				p, errno := ncp.Get(proto, b)
				if errno == api.OK {
					checkPut(t, p, b[:len(b)-2])
				}
			})
		}
	}
}

func TestUnlikePacketsDiffer(t *testing.T) {
	for _, proto := range both() {
		seen := map[string]api.Packet{}
		for _, p := range packets() {
			if p.Proto != proto {
				continue
			}
			b, _ := ncp.Put(p)
			if other, ok := seen[string(b)]; ok && !alike(p, other) {
				t.Errorf("%v and %v are both written as % x..", short(p), short(other), brief(b))
			}
			seen[string(b)] = p
		}
	}
}

// P16.3: Address.

func TestAddressOfKnownOptions(t *testing.T) {
	four, other := api.Opt{Type: 3, Data: []byte{10, 0, 0, 1}}, api.Opt{Type: 3, Data: []byte{9, 8, 7, 6}}
	eight := api.Opt{Type: 1, Data: []byte{0xfe, 1, 2, 3, 4, 5, 6, 7}}
	last := api.Opt{Type: 1, Data: []byte{0, 0, 0, 0, 0, 0, 0, 9}}
	for _, x := range []struct {
		proto uint16
		l     []api.Opt
		n     uint64
		ok    bool
	}{
		{api.IPCP, nil, 0, false},
		{api.IPV6CP, nil, 0, false},
		{api.IPCP, []api.Opt{}, 0, false},
		{api.IPCP, []api.Opt{four}, 0x0a000001, true},
		{api.IPCP, []api.Opt{four, other}, 0x0a000001, true},
		{api.IPCP, []api.Opt{other, four}, 0x09080706, true},
		{api.IPCP, []api.Opt{eight, four}, 0x0a000001, true},
		{api.IPCP, []api.Opt{eight}, 0, false},
		{api.IPV6CP, []api.Opt{eight}, 0xfe01020304050607, true},
		{api.IPV6CP, []api.Opt{eight, last}, 0xfe01020304050607, true},
		{api.IPV6CP, []api.Opt{last, eight}, 9, true},
		{api.IPV6CP, []api.Opt{four, last}, 9, true},
		{api.IPV6CP, []api.Opt{four}, 0, false},
		// The type of one protocol, the length of the other.
		{api.IPCP, []api.Opt{opt(3, 8), opt(1, 4)}, 0, false},
		{api.IPV6CP, []api.Opt{opt(3, 8), opt(1, 4)}, 0, false},
		// One that may not be is passed by.
		{api.IPCP, []api.Opt{{Type: 3}, opt(3, 3), opt(3, 5), four}, 0x0a000001, true},
		{api.IPV6CP, []api.Opt{{Type: 1}, opt(1, 7), opt(1, 9), last}, 9, true},
		{api.IPCP, []api.Opt{{Type: 3}}, 0, false},
		{api.IPV6CP, []api.Opt{{Type: 1}}, 0, false},
		// Others that may not be count for nothing.
		{api.IPCP, []api.Opt{opt(2, 0), opt(129, 3), opt(7, 300), four, opt(2, 1)}, 0x0a000001, true},
		{api.IPV6CP, []api.Opt{opt(2, 0), opt(7, 300), eight, opt(2, 1)}, 0xfe01020304050607, true},
		// An address of 0 is one.
		{api.IPCP, []api.Opt{{Type: 3, Data: make([]byte, 4)}, four}, 0, true},
		{api.IPV6CP, []api.Opt{{Type: 1, Data: make([]byte, 8)}, eight}, 0, true},
		{api.IPCP, []api.Opt{{Type: 3, Data: []byte{255, 255, 255, 255}}}, 0xffffffff, true},
		{api.IPV6CP, []api.Opt{{Type: 1, Data: bytes.Repeat([]byte{255}, 8)}}, 0xffffffffffffffff, true},
		{api.IPCP, []api.Opt{{Type: 129, Data: []byte{1, 2, 3, 4}}}, 0, false},
	} {
		checkAddress(t, x.proto, x.l, x.n, x.ok)
	}
}

func TestAddressOfOtherProtocols(t *testing.T) {
	l := []api.Opt{opt(3, 4), opt(1, 8), opt(3, 2), opt(5, 4), opt(1, 2)}
	for n := range 65536 {
		if n != ipcp && n != ipv6cp {
			checkAddress(t, uint16(n), l, 0, false)
			checkAddress(t, uint16(n), nil, 0, false)
		}
	}
}

func TestAddressOfEachTypeAndLength(t *testing.T) {
	for _, proto := range both() {
		for _, kind := range codes() {
			for n := range 260 {
				l := []api.Opt{opt(kind, n)}
				want, is := told(proto, l)
				checkAddress(t, proto, l, want, is)
			}
		}
	}
}

func TestAddressOfEachOctet(t *testing.T) {
	for at := range 8 {
		for c := range 256 {
			data := make([]byte, 8)
			data[at] = byte(c)
			checkAddress(t, ipv6cp, []api.Opt{{Type: 1, Data: data}}, uint64(c)<<(56-8*at), true)
			checkAddress(t, ipcp, []api.Opt{{Type: 3, Data: data[:4]}}, uint64(c)<<56>>(8*at+32), true)
		}
	}
}

// Each list of up to four options out of those that tell an address, of those that
// nearly do, and of others.
func TestAddressOfManyLists(t *testing.T) {
	few := []api.Opt{{}, opt(3, 4), opt(1, 8), opt(3, 3), opt(1, 9), opt(1, 4), opt(3, 8), {Type: 3, Data: []byte{1, 2, 3, 4}}}
	rows([]byte{0, 1, 2, 3, 4, 5, 6, 7}, 4, func(b []byte) {
		var l []api.Opt
		for _, i := range b {
			l = append(l, few[i])
		}
		for _, proto := range []uint16{ipcp, ipv6cp, api.LCP} {
			want, is := told(proto, l)
			checkAddress(t, proto, l, want, is)
		}
	})
}

func TestAddressBehindManyOptions(t *testing.T) {
	for _, o := range []api.Opt{{}, {Type: 1}, {Type: 3}, opt(2, 1)} {
		l := slices.Repeat([]api.Opt{o}, 20000)
		for _, proto := range both() {
			checkAddress(t, proto, l, 0, false)
		}
		l = append(l, opt(3, 4), opt(1, 8))
		for _, proto := range both() {
			want, _ := told(proto, l)
			checkAddress(t, proto, l, want, true)
		}
	}
}

// K4 to K6: nothing is changed, kept, or read behind a list's length.

// withRoom gives octets in a memory that has more behind them.
func withRoom(b []byte) []byte {
	return slices.Concat(b, bytes.Repeat([]byte{2}, 20), bytes.Repeat([]byte{0xa5}, 40))[:len(b)]
}

// roomyOpts gives the same options in memory that has more behind the list, and
// behind the data of each; what lies there tells an address, or may not be.
func roomyOpts(l []api.Opt) []api.Opt {
	l = slices.Concat(l, []api.Opt{opt(3, 4), opt(1, 8), opt(2, 0), opt(1, 300)})[:len(l)]
	for i := range l {
		l[i].Data = withRoom(l[i].Data)
	}
	return l
}

// roomy gives the same packet in memory that has more behind each of its lists.
func roomy(p api.Packet) api.Packet {
	p.Opts = roomyOpts(p.Opts)
	p.One, p.Two, p.Data = withRoom(p.One), withRoom(p.Two), withRoom(p.Data)
	p.Nums = make([]uint32, 0, 12)
	return p
}

// whole gives a copy of all that the memory of a packet holds, room and all.
func whole(p api.Packet) api.Packet {
	p.Opts = slices.Clone(p.Opts[:cap(p.Opts)])
	for i, o := range p.Opts {
		p.Opts[i].Data = o.Data[:cap(o.Data)]
	}
	p.One, p.Two, p.Data = p.One[:cap(p.One)], p.Two[:cap(p.Two)], p.Data[:cap(p.Data)]
	p.Nums = p.Nums[:cap(p.Nums)]
	return copied(p)
}

// spoil overwrites octets, and what lies behind them in their memory.
func spoil(b []byte) {
	b = b[:cap(b)]
	for i := range b {
		b[i] ^= 0xa5
	}
}

// spoilAll overwrites the lists of a packet, and all that their memory holds.
func spoilAll(p api.Packet) {
	l := p.Opts[:cap(p.Opts)]
	for i := range l {
		spoil(l[i].Data)
		l[i] = api.Opt{Type: ^l[i].Type, Data: []byte{0xa5}}
	}
	spoil(p.Data)
	spoil(p.One)
	spoil(p.Two)
}

func TestNoRoomIsReadNorWritten(t *testing.T) {
	for _, p := range packets() {
		in, b := roomy(p), withRoom(written(p))
		before, octets := whole(in), bytes.Clone(b[:cap(b)])
		checkPut(t, in, written(p))
		checkRead(t, b, p)
		// What is missing lies in the room.
		checkWrong(t, p.Proto, b[:len(b)-1], api.ErrShort)
		if !alike(whole(in), before) || !bytes.Equal(b[:cap(b)], octets) {
			t.Errorf("what was handed in of %v was changed", short(p))
		}
	}
	for _, proto := range both() {
		checkWrong(t, proto, withRoom([]byte{1, 0, 0, 5, 8}), api.ErrShort)
		checkWrong(t, proto, withRoom([]byte{1, 0, 0}), api.ErrShort)
	}
}

func TestAddressReadsAndWritesNoRoom(t *testing.T) {
	for _, proto := range both() {
		for _, l := range lists() {
			in := roomyOpts(l)
			before := whole(api.Packet{Opts: in})
			want, is := told(proto, l)
			checkAddress(t, proto, in, want, is)
			if !alike(whole(api.Packet{Opts: in}), before) {
				t.Errorf("Address(%x, ..) changed %v..", proto, l[:min(len(l), 5)])
			}
		}
		// What a number, or a list, lacks lies in the room.
		checkAddress(t, proto, roomyOpts([]api.Opt{opt(3, 3), opt(1, 7)}), 0, false)
		checkAddress(t, proto, roomyOpts([]api.Opt{}), 0, false)
	}
}

func TestAnswersAreNewMemory(t *testing.T) {
	for _, p := range packets() {
		in, octets := copied(p), slices.Concat(written(p), []byte{1, 2, 3})
		before := bytes.Clone(octets)
		b, _ := ncp.Put(in)
		spoil(b)
		got, _ := ncp.Get(p.Proto, octets)
		spoilAll(got)
		if !alike(in, p) || !bytes.Equal(octets, before) {
			t.Errorf("answers of %v share its memory", short(p))
		}
		checkPut(t, in, written(p))
		checkRead(t, octets, p)
	}
}

func TestNothingIsKept(t *testing.T) {
	for _, p := range packets() {
		in, octets := copied(p), written(p)
		b, _ := ncp.Put(in)
		got, _ := ncp.Get(p.Proto, octets)
		spoilAll(in)
		spoil(octets)
		if !bytes.Equal(b, written(p)) || !alike(got, p) {
			t.Errorf("answers of %v changed with what was handed in", short(p))
		}
	}
}

func TestOptionsThatAreReadShareNoMemory(t *testing.T) {
	for _, proto := range both() {
		for _, l := range lists()[:17] {
			p := api.Packet{Proto: proto, Code: 1, Opts: l}
			for i := range l {
				got, _ := ncp.Get(proto, written(p))
				spoil(got.Opts[i].Data)
				if !sameOpts(got.Opts[:i], l[:i]) || !sameOpts(got.Opts[i+1:], l[i+1:]) {
					t.Errorf("of %v the option %d shares memory with others", short(p), i)
				}
			}
		}
	}
}

func TestNoRoomIsHandedOut(t *testing.T) {
	secret := bytes.Repeat([]byte{0xa5}, 40)
	for _, proto := range both() {
		for _, code := range []byte{0, 5, 8, 9, 255} {
			for n := range 60 {
				data := slices.Concat(make([]byte, n), secret)[:n]
				p := api.Packet{Proto: proto, Code: code, Data: data}
				b, _ := ncp.Put(p)
				got, _ := ncp.Get(proto, slices.Concat(written(p), secret)[:len(written(p))])
				padded, _ := ncp.Get(proto, slices.Concat(written(p), secret))
				for _, out := range [][]byte{b, got.Data, padded.Data} {
					if bytes.Contains(out[len(out):cap(out)], []byte{0xa5}) {
						t.Errorf("% x has room that was handed in", out)
					}
				}
			}
		}
	}
}

// Errors leave nothing behind that a later call could tell.
func TestErrorsChangeNothing(t *testing.T) {
	for range 3 {
		for _, proto := range both() {
			checkPutWrong(t, api.Packet{Proto: proto, Code: 1, Opts: []api.Opt{opt(2, 1)}}, api.ErrForm)
			checkPutWrong(t, api.Packet{Proto: proto, Code: 1, Data: []byte{1}}, api.ErrField)
			checkPutWrong(t, api.Packet{Proto: api.LCP, Code: 1}, api.ErrKind)
			checkWrong(t, proto, []byte{1, 0, 0, 7, 2, 3, 0}, api.ErrForm)
			checkWrong(t, api.LCP, []byte{1, 0, 0, 4}, api.ErrKind)
			checkAddress(t, proto, []api.Opt{{Type: 3}, {Type: 1}}, 0, false)
			checkAddress(t, proto, []api.Opt{{Type: 3, Data: make([]byte, 4)}, {Type: 1, Data: make([]byte, 8)}}, 0, true)
			for _, code := range codes() {
				p := full(proto, code)
				checkPut(t, p, written(p))
				checkRead(t, written(p), p)
			}
		}
	}
}
