package lcp_test

import (
	"bytes"
	"slices"
	"testing"

	"marline/api"
	"marline/ctl"
	"marline/lcp"
	"marline/opts"
)

// most is how many octets a control packet's data has at most.
const most = 65531

// some gives n octets that look like chance, but are the same in every run.
func some(seed uint32, n int) []byte {
	out := make([]byte, n)
	for i := range out {
		seed = seed*1664525 + 1013904223
		out[i] = byte(seed >> 24)
	}
	return out
}

// opt gives an option of a type that has n octets of data.
func opt(t byte, n int) api.Opt { return api.Opt{Type: t, Data: some(uint32(t), n)} }

// codes are all codes that a packet can have.
func codes() []byte {
	out := make([]byte, 256)
	for i := range out {
		out[i] = byte(i)
	}
	return out
}

// row is a row of the chapter's table.
type row struct{ opts, sub, magic, data bool }

// table says in the chapter's words what a packet of a code has.
func table(code byte) row {
	if code >= 1 && code <= 4 {
		return row{opts: true}
	} else if code == 8 {
		return row{sub: true, data: true}
	} else if code >= 9 && code <= 11 {
		return row{magic: true, data: true}
	}
	return row{data: true}
}

// lead says how many octets stand ahead of the Data of a packet of a code.
func lead(code byte) int {
	if x := table(code); x.sub {
		return 2
	} else if x.magic {
		return 4
	}
	return 0
}

// full gives a packet of LCP of a code that has all that its code has.
func full(code byte) api.Packet {
	p := api.Packet{Proto: 0xc021, Code: code, ID: code * 7}
	x := table(code)
	if x.opts {
		p.Opts = []api.Opt{{Type: 1, Data: []byte{5, 0xdc}}, {Type: 8}, {Type: 77, Data: []byte{1}}}
	}
	if x.sub {
		p.Sub = 0x8021
	}
	if x.magic {
		p.Magic = 0x01020304
	}
	if x.data {
		p.Data = []byte{9, 8, 7}
	}
	return p
}

// longest gives a packet of a code other than 1 to 4 that has n octets of Data
// more than it may have.
func longest(code byte, n int) api.Packet {
	p := full(code)
	p.Data = some(uint32(code), most-lead(code)+n)
	return p
}

// list gives options that may be, of size octets in all, which is no less than 8.
func list(size int) []api.Opt {
	var out []api.Opt
	for size > 255+8 {
		out = append(out, opt(0, 253))
		size -= 255
	}
	if size > 255 {
		out = append(out, opt(5, 4))
		size -= 6
	}
	return append(out, opt(255, size-2))
}

// lists are lists of options that may be.
func lists() [][]api.Opt {
	out := [][]api.Opt{
		nil, {}, {{}}, {{}, {}}, {{Type: 255}}, {{Type: 7}, {Type: 8, Data: []byte{}}}, {{Type: 8}, {Type: 7}},
		{opt(1, 2), opt(2, 4), opt(3, 2), opt(4, 253), opt(5, 4), opt(7, 0), opt(8, 0), opt(9, 1)},
		{opt(9, 1), opt(1, 2), opt(9, 1)}, {opt(0, 253)}, {opt(6, 253), {}, opt(3, 253)}, {opt(129, 3)},
		{{Type: 1, Data: []byte{0, 0}}}, {{Type: 1, Data: []byte{2, 2}}, {Type: 2, Data: []byte{7, 2, 8, 2}}},
	}
	for _, size := range []int{252, 253, 254, 255, 256, 1500, 65530, 65531} {
		out = append(out, list(size))
	}
	return out
}

// datas are many Data.
func datas() [][]byte {
	out := [][]byte{
		nil, {}, {0}, {255}, {0, 0}, {1, 4, 5, 0xdc}, {0xc0, 0x21, 1, 0, 0, 4}, {9, 1, 0, 4}, make([]byte, 300),
		bytes.Repeat([]byte{255}, 300), some(1, 1500), some(2, 65527),
	}
	for n := range 40 {
		out = append(out, some(uint32(n), n))
	}
	return out
}

// packets are packets of LCP that can be written, of each code.
func packets() []api.Packet {
	var out []api.Packet
	for _, code := range codes() {
		out = append(out, full(code), api.Packet{Proto: 0xc021, Code: code}, api.Packet{Proto: 0xc021, Code: code, ID: 255})
	}
	for _, code := range []byte{1, 2, 3, 4} {
		for i, l := range lists() {
			out = append(out, api.Packet{Proto: 0xc021, Code: code, ID: byte(i), Opts: l})
		}
	}
	for _, data := range datas() {
		for _, code := range []byte{0, 5, 6, 7, 12, 255} {
			out = append(out, api.Packet{Proto: 0xc021, Code: code, ID: 3, Data: data})
		}
		for _, n := range []uint16{0, 1, 0x0100, 0x8021, 0xffff} {
			out = append(out, api.Packet{Proto: 0xc021, Code: 8, ID: 4, Sub: n, Data: data})
		}
		for i, n := range []uint32{0, 1, 0x100, 0x10000, 0x01020304, 0xfffefdfc, 0xffffffff} {
			out = append(out, api.Packet{Proto: 0xc021, Code: byte(9 + i%3), ID: 5, Magic: n, Data: data})
		}
	}
	for _, code := range []byte{0, 5, 8, 9, 10, 11, 12, 255} {
		out = append(out, longest(code, 0), longest(code, -1))
	}
	return out
}

// rows calls f with each row of 0 to most octets of those that are told; it may
// not keep them.
func rows(octets []byte, most int, f func(b []byte)) {
	var grow func(b []byte)
	grow = func(b []byte) {
		f(b)
		if len(b) == most {
			return
		}
		for _, c := range octets {
			grow(append(b, c))
		}
	}
	grow(make([]byte, 0, most))
}

// control says how layer 13 writes a control packet.
func control(code, id byte, data []byte) []byte {
	n := len(data) + 4
	return slices.Concat([]byte{code, id, byte(n / 256), byte(n % 256)}, data)
}

// written says in the chapter's words how a packet that can be written is.
func written(p api.Packet) []byte {
	var data []byte
	x := table(p.Code)
	if x.opts {
		for _, o := range p.Opts {
			data = append(append(data, o.Type, byte(len(o.Data)+2)), o.Data...)
		}
	}
	if x.sub {
		data = append(data, byte(p.Sub/256), byte(p.Sub%256))
	}
	if x.magic {
		data = append(data, byte(p.Magic/16777216), byte(p.Magic/65536%256), byte(p.Magic/256%256), byte(p.Magic%256))
	}
	return control(p.Code, p.ID, append(data, p.Data...))
}

// read says in the chapter's words which packet octets begin with.
func read(b []byte) (api.Packet, api.Errno) {
	code, id, data, errno := ctl.Get(b)
	if errno != api.OK {
		return api.Packet{}, errno
	}
	p := api.Packet{Proto: 0xc021, Code: code, ID: id}
	x := table(code)
	if x.opts {
		l, errno := opts.Get(0xc021, data)
		if errno != api.OK {
			return api.Packet{}, errno
		}
		p.Opts = l
		return p, api.OK
	}
	if len(data) < lead(code) {
		return api.Packet{}, api.ErrShort
	}
	if x.sub {
		p.Sub = uint16(data[0])*256 + uint16(data[1])
	}
	if x.magic {
		p.Magic = uint32(data[0])*16777216 + uint32(data[1])*65536 + uint32(data[2])*256 + uint32(data[3])
	}
	p.Data = data[lead(code):]
	return p, api.OK
}

// sameOpts tells whether two lists of options have the same types and data.
func sameOpts(a, b []api.Opt) bool {
	return slices.EqualFunc(a, b, func(a, b api.Opt) bool { return a.Type == b.Type && bytes.Equal(a.Data, b.Data) })
}

// alike tells whether two packets have the same fields, one by one.
func alike(a, b api.Packet) bool {
	return a.Proto == b.Proto && a.Code == b.Code && a.ID == b.ID && a.Sub == b.Sub && a.Magic == b.Magic &&
		sameOpts(a.Opts, b.Opts) && bytes.Equal(a.One, b.One) && bytes.Equal(a.Two, b.Two) &&
		bytes.Equal(a.Data, b.Data) && slices.Equal(a.Nums, b.Nums)
}

// copied gives the same packet in memory of its own.
func copied(p api.Packet) api.Packet {
	p.Opts = slices.Clone(p.Opts)
	for i := range p.Opts {
		p.Opts[i].Data = bytes.Clone(p.Opts[i].Data)
	}
	p.One, p.Two, p.Data = bytes.Clone(p.One), bytes.Clone(p.Two), bytes.Clone(p.Data)
	p.Nums = slices.Clone(p.Nums)
	return p
}

// brief gives at most some 24 octets, so that what fails can be read.
func brief(b []byte) []byte { return b[:min(len(b), 24)] }

// short gives a packet of which what fails can be read.
func short(p api.Packet) api.Packet {
	p.Opts, p.Data = p.Opts[:min(len(p.Opts), 3)], brief(p.Data)
	return p
}

// checkPut holds what Put answers against what is wanted.
func checkPut(t *testing.T, p api.Packet, want []byte) {
	t.Helper()
	if b, errno := lcp.Put(p); errno != api.OK || !bytes.Equal(b, want) {
		t.Errorf("Put(%v) = %d octets, % x.., %d, want %d, % x..", short(p), len(b), brief(b), errno, len(want), brief(want))
	}
}

// checkPutWrong wants that Put answers an error, and (K3) no octets.
func checkPutWrong(t *testing.T, p api.Packet, code api.Errno) {
	t.Helper()
	if b, errno := lcp.Put(p); errno != code || len(b) != 0 {
		t.Errorf("Put(%v) = %d octets, % x.., %d, want none, %d", short(p), len(b), brief(b), errno, code)
	}
}

// checkGet holds what Get answers against what is wanted.
func checkGet(t *testing.T, b []byte, want api.Packet, code api.Errno) {
	t.Helper()
	if p, errno := lcp.Get(b); errno != code || !alike(p, want) {
		t.Errorf("Get(%d octets, % x..) = %v, %d, want %v, %d", len(b), brief(b), short(p), errno, short(want), code)
	}
}

// checkWrong wants that Get answers an error, and (K3) nothing else.
func checkWrong(t *testing.T, b []byte, code api.Errno) {
	t.Helper()
	checkGet(t, b, api.Packet{}, code)
}

// checkModel holds what Get answers against the chapter's words.
func checkModel(t *testing.T, b []byte) {
	t.Helper()
	want, errno := read(b)
	checkGet(t, b, want, errno)
}

// P15.1: Put.

func TestPutOfKnownPackets(t *testing.T) {
	for _, x := range []struct {
		p    api.Packet
		want []byte
	}{
		{api.Packet{Proto: api.LCP, Code: 9, Magic: 1}, []byte{0x09, 0x00, 0x00, 0x08, 0x00, 0x00, 0x00, 0x01}},
		{api.Packet{Proto: api.LCP}, []byte{0x00, 0x00, 0x00, 0x04}},
		{api.Packet{Proto: api.LCP, Code: 1, ID: 7, Opts: []api.Opt{{Type: 1, Data: []byte{5, 0xdc}}, {Type: 8}}},
			[]byte{0x01, 0x07, 0x00, 0x0a, 0x01, 0x04, 0x05, 0xdc, 0x08, 0x02}},
		{api.Packet{Proto: api.LCP, Code: 2, ID: 8, Opts: []api.Opt{}}, []byte{0x02, 0x08, 0x00, 0x04}},
		{api.Packet{Proto: api.LCP, Code: 3, ID: 9, Opts: []api.Opt{{Type: 7}}}, []byte{0x03, 0x09, 0x00, 0x06, 0x07, 0x02}},
		{api.Packet{Proto: api.LCP, Code: 4, ID: 10, Opts: []api.Opt{{Type: 99, Data: []byte{0}}}},
			[]byte{0x04, 0x0a, 0x00, 0x07, 0x63, 0x03, 0x00}},
		{api.Packet{Proto: api.LCP, Code: 5, ID: 1, Data: []byte("bye")}, []byte{0x05, 0x01, 0x00, 0x07, 0x62, 0x79, 0x65}},
		{api.Packet{Proto: api.LCP, Code: 6, ID: 1}, []byte{0x06, 0x01, 0x00, 0x04}},
		{api.Packet{Proto: api.LCP, Code: 7, ID: 1, Data: []byte{0xfe, 2, 0, 4}},
			[]byte{0x07, 0x01, 0x00, 0x08, 0xfe, 0x02, 0x00, 0x04}},
		{api.Packet{Proto: api.LCP, Code: 8, ID: 2, Sub: api.IPV6CP, Data: []byte{1, 3, 0, 4}},
			[]byte{0x08, 0x02, 0x00, 0x0a, 0x80, 0x57, 0x01, 0x03, 0x00, 0x04}},
		{api.Packet{Proto: api.LCP, Code: 8, Data: []byte{}}, []byte{0x08, 0x00, 0x00, 0x06, 0x00, 0x00}},
		{api.Packet{Proto: api.LCP, Code: 10, Magic: 0x89abcdef, Data: []byte{5}},
			[]byte{0x0a, 0x00, 0x00, 0x09, 0x89, 0xab, 0xcd, 0xef, 0x05}},
		{api.Packet{Proto: api.LCP, Code: 11, ID: 255, Magic: 0x01000000},
			[]byte{0x0b, 0xff, 0x00, 0x08, 0x01, 0x00, 0x00, 0x00}},
		{api.Packet{Proto: api.LCP, Code: 12, ID: 3, Data: []byte{0, 0, 0, 1}},
			[]byte{0x0c, 0x03, 0x00, 0x08, 0x00, 0x00, 0x00, 0x01}},
		{api.Packet{Proto: api.LCP, Code: 255, ID: 254, Data: []byte{253}}, []byte{0xff, 0xfe, 0x00, 0x05, 0xfd}},
	} {
		checkPut(t, x.p, x.want)
	}
}

func TestPutOfEachCodeAndIdentifier(t *testing.T) {
	for _, code := range codes() {
		for id := range 256 {
			p := full(code)
			p.ID = byte(id)
			checkPut(t, p, written(p))
		}
	}
}

func TestPutOfManyPackets(t *testing.T) {
	for _, p := range packets() {
		checkPut(t, p, written(p))
	}
}

// Any number may be rejected, one that may not be a protocol's, too.
func TestPutOfEachSub(t *testing.T) {
	for n := range 65536 {
		p := api.Packet{Proto: api.LCP, Code: 8, ID: 1, Sub: uint16(n), Data: []byte{7}}
		checkPut(t, p, []byte{8, 1, 0, 7, byte(n / 256), byte(n % 256), 7})
	}
}

func TestPutOfEachBitOfMagic(t *testing.T) {
	for _, code := range []byte{9, 10, 11} {
		for bit := range 32 {
			want := []byte{code, 1, 0, 9, 0, 0, 0, 0, 7}
			want[7-bit/8] = 1 << (bit % 8)
			checkPut(t, api.Packet{Proto: api.LCP, Code: code, ID: 1, Magic: 1 << bit, Data: []byte{7}}, want)
		}
	}
}

func TestPutTellsOtherProtocols(t *testing.T) {
	for n := range 65536 {
		if n == 0xc021 {
			continue
		}
		for _, code := range []byte{0, 1, 8, 9} {
			p := full(code)
			p.Proto = uint16(n)
			checkPutWrong(t, p, api.ErrKind)
		}
	}
}

// alien sets a field that a code may have, or may not.
type alien struct {
	may bool
	set func(p *api.Packet)
}

// aliens are what sets each field to what isn't nothing.
func aliens(code byte) []alien {
	x := table(code)
	return []alien{
		{x.opts, func(p *api.Packet) { p.Opts = []api.Opt{{}} }},
		{x.opts, func(p *api.Packet) { p.Opts = []api.Opt{{Type: 1, Data: []byte{5, 0xdc}}, {Type: 7}} }},
		{x.sub, func(p *api.Packet) { p.Sub = 1 }},
		{x.sub, func(p *api.Packet) { p.Sub = 0x8000 }},
		{x.magic, func(p *api.Packet) { p.Magic = 1 }},
		{x.magic, func(p *api.Packet) { p.Magic = 1 << 16 }},
		{x.magic, func(p *api.Packet) { p.Magic = 1 << 31 }},
		{x.data, func(p *api.Packet) { p.Data = []byte{0} }},
		{x.data, func(p *api.Packet) { p.Data = []byte{7, 2} }},
		{false, func(p *api.Packet) { p.One = []byte{0} }},
		{false, func(p *api.Packet) { p.One = []byte{1, 2} }},
		{false, func(p *api.Packet) { p.Two = []byte{0} }},
		{false, func(p *api.Packet) { p.Two = []byte{1, 2} }},
		{false, func(p *api.Packet) { p.Nums = []uint32{0} }},
		{false, func(p *api.Packet) { p.Nums = make([]uint32, 12) }},
	}
}

func TestPutTellsFieldsThatACodeLacks(t *testing.T) {
	for _, code := range codes() {
		for _, x := range aliens(code) {
			for _, p := range []api.Packet{full(code), {Proto: api.LCP, Code: code}} {
				x.set(&p)
				if x.may {
					checkPut(t, p, written(p))
					continue
				}
				checkPutWrong(t, p, api.ErrField)
			}
		}
	}
}

func TestPutTellsTwoFieldsThatACodeLacks(t *testing.T) {
	for _, code := range codes() {
		for i, x := range aliens(code) {
			for _, y := range aliens(code)[i+1:] {
				p := full(code)
				x.set(&p)
				y.set(&p)
				if x.may && y.may {
					checkPut(t, p, written(p))
					continue
				}
				checkPutWrong(t, p, api.ErrField)
			}
		}
	}
}

// K1: a list that is empty is nothing, as one that is nil.
func TestEmptyListsAreNothing(t *testing.T) {
	for _, code := range codes() {
		p := full(code)
		want := written(p)
		p.One, p.Two, p.Nums = []byte{}, []byte{}, []uint32{}
		if table(code).opts {
			p.Data = make([]byte, 0, 9)
		} else {
			p.Opts = make([]api.Opt, 0, 9)
		}
		checkPut(t, p, want)
	}
}

// fitting says whether an option's data may have so many octets in LCP.
func fitting(kind byte, n int) bool {
	switch kind {
	case 1:
		return n == 2
	case 2, 5:
		return n == 4
	case 3, 4:
		return n >= 2 && n <= 253
	case 7, 8:
		return n == 0
	case 9:
		return n == 1
	}
	return n <= 253
}

func TestPutOfEachTypeAndLengthOfAnOption(t *testing.T) {
	for _, code := range []byte{1, 2, 3, 4} {
		for _, kind := range codes() {
			for _, n := range []int{0, 1, 2, 3, 4, 5, 8, 252, 253, 254, 255, 256, 300} {
				p := api.Packet{Proto: api.LCP, Code: code, Opts: []api.Opt{opt(kind, n)}}
				if fitting(kind, n) {
					checkPut(t, p, written(p))
					continue
				}
				checkPutWrong(t, p, api.ErrForm)
			}
		}
	}
}

func TestPutTellsAnOptionThatMayNotBeWhereverItStands(t *testing.T) {
	for _, code := range []byte{1, 2, 3, 4} {
		for at := range 5 {
			for _, o := range []api.Opt{opt(1, 3), opt(3, 1), opt(7, 1), opt(9, 0), opt(0, 254)} {
				p := api.Packet{Proto: api.LCP, Code: code, Opts: make([]api.Opt, 5)}
				p.Opts[at] = o
				checkPutWrong(t, p, api.ErrForm)
			}
		}
	}
}

// Options are those of LCP: what may be of another protocol may not here.
func TestOptionsAreThoseOfLCP(t *testing.T) {
	for _, code := range []byte{1, 2, 3, 4} {
		for _, o := range []api.Opt{opt(1, 8), opt(3, 1), opt(7, 3), opt(8, 1), opt(9, 2)} {
			p := api.Packet{Proto: api.LCP, Code: code, Opts: []api.Opt{o}}
			checkPutWrong(t, p, api.ErrForm)
			checkWrong(t, written(p), api.ErrForm)
		}
		for _, o := range []api.Opt{opt(3, 2), opt(129, 3), opt(132, 0)} {
			p := api.Packet{Proto: api.LCP, Code: code, Opts: []api.Opt{o}}
			checkPut(t, p, written(p))
			checkGet(t, written(p), p, api.OK)
		}
	}
}

func TestPutTellsDataThatIsLong(t *testing.T) {
	for _, code := range codes() {
		if table(code).opts {
			continue
		}
		checkPut(t, longest(code, 0), written(longest(code, 0)))
		for _, n := range []int{1, 2, 3, 4, 5, 6, 100000} {
			checkPutWrong(t, longest(code, n), api.ErrLong)
		}
	}
}

func TestPutTellsOptionsThatAreLong(t *testing.T) {
	for _, code := range []byte{1, 2, 3, 4} {
		for size := most - 10; size < most+10; size++ {
			p := api.Packet{Proto: api.LCP, Code: code, ID: 1, Opts: list(size)}
			if size > most {
				checkPutWrong(t, p, api.ErrLong)
				continue
			}
			checkPut(t, p, written(p))
		}
		checkPutWrong(t, api.Packet{Proto: api.LCP, Code: code, Opts: make([]api.Opt, 32766)}, api.ErrLong)
		checkPutWrong(t, api.Packet{Proto: api.LCP, Code: code, Opts: make([]api.Opt, 70000)}, api.ErrLong)
		p := api.Packet{Proto: api.LCP, Code: code, Opts: make([]api.Opt, 32765)}
		checkPut(t, p, written(p))
	}
}

// K2: of several errors the one that the chapter names first is told.
func TestPutTellsTheFirstError(t *testing.T) {
	long, wrong := list(most+1), []api.Opt{opt(1, 3)}
	for _, code := range []byte{1, 2, 3, 4} {
		both := slices.Concat(long, wrong)
		checkPutWrong(t, api.Packet{Proto: api.LCP, Code: code, Opts: both}, api.ErrForm)
		checkPutWrong(t, api.Packet{Proto: api.LCP, Code: code, Opts: slices.Concat(wrong, long)}, api.ErrForm)
		checkPutWrong(t, api.Packet{Proto: api.LCP, Code: code, Opts: both, Data: []byte{1}}, api.ErrField)
		checkPutWrong(t, api.Packet{Proto: api.LCP, Code: code, Opts: wrong, Magic: 1}, api.ErrField)
		checkPutWrong(t, api.Packet{Proto: api.LCP, Code: code, Opts: long, Sub: 1}, api.ErrField)
		checkPutWrong(t, api.Packet{Proto: api.LCP, Code: code, Data: make([]byte, most+1)}, api.ErrField)
		for _, proto := range []uint16{0, api.IPCP, api.IPV6CP, api.PAP} {
			checkPutWrong(t, api.Packet{Proto: proto, Code: code, Opts: both, Data: []byte{1}}, api.ErrKind)
			checkPutWrong(t, api.Packet{Proto: proto, Code: code, Opts: wrong}, api.ErrKind)
			checkPutWrong(t, api.Packet{Proto: proto, Code: code, Opts: long}, api.ErrKind)
		}
	}
	for _, code := range []byte{0, 5, 8, 9, 10, 11, 12, 255} {
		p := longest(code, 1)
		p.Opts = wrong
		checkPutWrong(t, p, api.ErrField)
		p.Opts = []api.Opt{{}}
		checkPutWrong(t, p, api.ErrField)
		p.Proto = api.IPCP
		checkPutWrong(t, p, api.ErrKind)
		p.Opts = nil
		checkPutWrong(t, p, api.ErrKind)
	}
}

// P15.2: Get.

func TestGetOfKnownOctets(t *testing.T) {
	for _, x := range []struct {
		b    []byte
		want api.Packet
	}{
		{[]byte{9, 0, 0, 8, 0, 0, 0, 1}, api.Packet{Proto: api.LCP, Code: 9, Magic: 1}},
		{[]byte{9, 0, 0, 8, 0, 0, 0, 1, 2, 3}, api.Packet{Proto: api.LCP, Code: 9, Magic: 1}},
		{[]byte{10, 1, 0, 9, 1, 2, 3, 4, 5, 6}, api.Packet{Proto: api.LCP, Code: 10, ID: 1, Magic: 0x01020304, Data: []byte{5}}},
		{[]byte{11, 1, 0, 8, 255, 0, 0, 0}, api.Packet{Proto: api.LCP, Code: 11, ID: 1, Magic: 0xff000000}},
		{[]byte{12, 1, 0, 8, 0, 0, 0, 1}, api.Packet{Proto: api.LCP, Code: 12, ID: 1, Data: []byte{0, 0, 0, 1}}},
		{[]byte{8, 1, 0, 6, 0x80, 0x21}, api.Packet{Proto: api.LCP, Code: 8, ID: 1, Sub: 0x8021}},
		{[]byte{8, 1, 0, 7, 0, 0x21, 1, 2}, api.Packet{Proto: api.LCP, Code: 8, ID: 1, Sub: 0x21, Data: []byte{1}}},
		{[]byte{7, 1, 0, 6, 0x80, 0x21}, api.Packet{Proto: api.LCP, Code: 7, ID: 1, Data: []byte{0x80, 0x21}}},
		{[]byte{0, 0, 0, 4}, api.Packet{Proto: api.LCP}},
		{[]byte{0, 0, 0, 6, 1, 1}, api.Packet{Proto: api.LCP, Data: []byte{1, 1}}},
		{[]byte{1, 2, 0, 4, 1}, api.Packet{Proto: api.LCP, Code: 1, ID: 2}},
		{[]byte{1, 7, 0, 10, 1, 4, 1, 0, 8, 2, 7, 2}, api.Packet{Proto: api.LCP, Code: 1, ID: 7,
			Opts: []api.Opt{{Type: 1, Data: []byte{1, 0}}, {Type: 8}}}},
		{[]byte{4, 0, 0, 7, 99, 3, 5}, api.Packet{Proto: api.LCP, Code: 4, Opts: []api.Opt{{Type: 99, Data: []byte{5}}}}},
		{[]byte{5, 0, 0, 7, 1, 3, 5}, api.Packet{Proto: api.LCP, Code: 5, Data: []byte{1, 3, 5}}},
	} {
		checkGet(t, x.b, x.want, api.OK)
	}
}

func TestGetOfWrongOctets(t *testing.T) {
	for _, x := range []struct {
		b    []byte
		code api.Errno
	}{
		{nil, api.ErrShort},
		{[]byte{}, api.ErrShort},
		{[]byte{9}, api.ErrShort},
		{[]byte{9, 0, 0}, api.ErrShort},
		{[]byte{9, 0, 0, 0}, api.ErrForm},
		{[]byte{9, 0, 0, 3}, api.ErrForm},
		{[]byte{9, 0, 0, 3, 1, 2, 3, 4}, api.ErrForm},
		{[]byte{9, 0, 0, 4}, api.ErrShort},
		{[]byte{9, 0, 0, 4, 1, 2, 3, 4}, api.ErrShort},
		{[]byte{10, 0, 0, 7, 1, 2, 3}, api.ErrShort},
		{[]byte{11, 0, 0, 7, 1, 2, 3, 4}, api.ErrShort},
		{[]byte{9, 0, 0, 9, 1, 2, 3, 4}, api.ErrShort},
		{[]byte{8, 0, 0, 4}, api.ErrShort},
		{[]byte{8, 0, 0, 5, 1}, api.ErrShort},
		{[]byte{8, 0, 0, 5, 1, 2}, api.ErrShort},
		{[]byte{1, 0, 0, 5, 1}, api.ErrShort},
		{[]byte{1, 0, 0, 5, 8, 2}, api.ErrShort},
		{[]byte{1, 0, 0, 6, 1, 1}, api.ErrForm},
		{[]byte{2, 0, 0, 6, 7, 1}, api.ErrForm},
		{[]byte{3, 0, 0, 7, 7, 3, 0}, api.ErrForm},
		{[]byte{4, 0, 0, 7, 1, 4, 5}, api.ErrShort},
		{[]byte{4, 0, 0, 7, 1, 4, 5, 6}, api.ErrShort},
		{[]byte{1, 0, 0, 7, 1, 3, 5}, api.ErrForm},
		{[]byte{1, 0, 0, 8, 1, 3, 5, 7}, api.ErrShort},
		{[]byte{1, 0, 0, 9, 1, 3, 5, 7, 1}, api.ErrForm},
		{[]byte{1, 0, 0, 3, 1, 3, 5}, api.ErrForm},
		{[]byte{1, 0, 0, 8, 7, 3, 0}, api.ErrShort},
	} {
		checkWrong(t, x.b, x.code)
	}
}

// Data of too few octets for Sub, or Magic, whatever the code, and whatever stands
// behind.
func TestGetOfEachCodeWithFewOctets(t *testing.T) {
	for _, code := range codes() {
		if table(code).opts {
			continue
		}
		for n := range 12 {
			data := some(uint32(code), n)
			b := control(code, 5, data)
			for _, tail := range [][]byte{nil, {1}, {1, 2, 3, 4}} {
				octets := slices.Concat(b, tail)
				if n < lead(code) {
					checkWrong(t, octets, api.ErrShort)
				}
				checkModel(t, octets)
			}
		}
	}
}

func TestGetOfEachTypeAndLengthOfAnOption(t *testing.T) {
	for _, code := range []byte{1, 2, 3, 4} {
		for _, kind := range codes() {
			for n := range 254 {
				p := api.Packet{Proto: api.LCP, Code: code, ID: 9, Opts: []api.Opt{opt(kind, n)}}
				if fitting(kind, n) {
					checkGet(t, written(p), p, api.OK)
					continue
				}
				checkWrong(t, written(p), api.ErrForm)
			}
		}
	}
}

// K2: an error of the control packet ahead of one of its data.
func TestGetTellsTheFirstError(t *testing.T) {
	for _, code := range codes() {
		for _, data := range [][]byte{{}, {7}, {7, 1}, {7, 3, 0}, {1, 3, 0, 9}} {
			b := control(code, 1, data)
			for length := range 4 {
				b[3] = byte(length)
				checkWrong(t, b, api.ErrForm)
			}
			b[3] = byte(len(b) + 1)
			checkWrong(t, b, api.ErrShort)
			checkWrong(t, b[:3], api.ErrShort)
		}
	}
}

func TestGetOfAllShortRows(t *testing.T) {
	for _, code := range []byte{0, 1, 2, 3, 4, 5, 7, 8, 9, 10, 11, 12, 255} {
		rows([]byte{0, 1, 2, 3, 4, 7, 255}, 5, func(data []byte) {
			checkModel(t, control(code, 3, data))
			checkModel(t, slices.Concat([]byte{code}, data))
			checkModel(t, slices.Concat([]byte{code, 1, 0}, data))
		})
		rows([]byte{1, 2, 4}, 8, func(data []byte) { checkModel(t, control(code, 3, data)) })
	}
}

func TestGetOfManyRows(t *testing.T) {
	for _, code := range codes() {
		for n := range 60 {
			data := some(uint32(n), n)
			checkModel(t, control(code, byte(n), data))
			for i := range data {
				// Lengths that are small let many options be read.
				data[i] %= byte(n%7 + 4)
			}
			b := control(code, byte(n), data)
			checkModel(t, b)
			b[3] -= byte(n % 5)
			checkModel(t, b)
		}
	}
}

func TestGetOfPacketsThatAreCutOff(t *testing.T) {
	for _, p := range packets() {
		b := written(p)
		for n := range min(len(b), 60) {
			checkWrong(t, b[:n], api.ErrShort)
		}
		checkWrong(t, b[:len(b)-1], api.ErrShort)
	}
}

// P15.3: what is written, and read again.

func TestWhatIsWrittenIsRead(t *testing.T) {
	for _, p := range packets() {
		b, errno := lcp.Put(p)
		if errno != api.OK {
			t.Errorf("Put(%v): %d", short(p), errno)
		}
		checkGet(t, b, p, api.OK)
	}
	for n := range 65536 {
		p := api.Packet{Proto: api.LCP, Code: 8, Sub: uint16(n)}
		b, _ := lcp.Put(p)
		checkGet(t, b, p, api.OK)
	}
}

func TestWhateverStandsBehindCountsForNothing(t *testing.T) {
	for _, p := range packets() {
		b := written(p)
		for _, tail := range [][]byte{{0}, {1}, {8, 2}, {1, 3, 0}, {255, 255, 255, 255}, some(4, 300)} {
			checkGet(t, slices.Concat(b, tail), p, api.OK)
		}
	}
	for _, p := range packets()[:100] {
		b := written(p)
		checkGet(t, slices.Concat(b, b), p, api.OK)
		checkGet(t, slices.Concat(b, make([]byte, 70000)), p, api.OK)
	}
}

func TestWhatIsReadHasNoOtherWriting(t *testing.T) {
	for _, code := range codes() {
		rows([]byte{0, 2, 3, 7, 9}, 5, func(data []byte) {
			b := slices.Concat(control(code, 1, data), []byte{2, 2})
			p, errno := lcp.Get(b)
			if errno == api.OK {
				checkPut(t, p, b[:len(b)-2])
			}
		})
	}
}

func TestUnlikePacketsDiffer(t *testing.T) {
	seen := map[string]api.Packet{}
	for _, p := range packets() {
		b, _ := lcp.Put(p)
		if other, ok := seen[string(b)]; ok && !alike(p, other) {
			t.Errorf("%v and %v are both written as % x..", short(p), short(other), brief(b))
		}
		seen[string(b)] = p
	}
}

// K4 to K6: nothing is changed, kept, or read behind a list's length.

// withRoom gives octets in a memory that has more behind them.
func withRoom(b []byte) []byte {
	return slices.Concat(b, bytes.Repeat([]byte{2}, 20), bytes.Repeat([]byte{0xa5}, 40))[:len(b)]
}

// roomy gives the same packet in memory that has more behind each of its lists;
// what lies there may not be.
func roomy(p api.Packet) api.Packet {
	n := len(p.Opts)
	p.Opts = slices.Concat(p.Opts, []api.Opt{{Type: 1, Data: make([]byte, 300)}, {Type: 7, Data: []byte{7}}})[:n]
	for i := range p.Opts {
		p.Opts[i].Data = withRoom(p.Opts[i].Data)
	}
	p.One, p.Two, p.Data = withRoom(p.One), withRoom(p.Two), withRoom(p.Data)
	p.Nums = make([]uint32, 0, 12)
	return p
}

// whole gives a copy of all that the memory of a packet holds, room and all.
func whole(p api.Packet) api.Packet {
	p.Opts = p.Opts[:cap(p.Opts)]
	p.One, p.Two, p.Data = p.One[:cap(p.One)], p.Two[:cap(p.Two)], p.Data[:cap(p.Data)]
	p.Nums = p.Nums[:cap(p.Nums)]
	return copied(p)
}

// spoil overwrites octets, and what lies behind them in their memory.
func spoil(b []byte) {
	b = b[:cap(b)]
	for i := range b {
		b[i] ^= 0xa5
	}
}

// spoilAll overwrites the lists of a packet, and all that their memory holds.
func spoilAll(p api.Packet) {
	l := p.Opts[:cap(p.Opts)]
	for i := range l {
		spoil(l[i].Data)
		l[i] = api.Opt{Type: ^l[i].Type, Data: []byte{0xa5}}
	}
	spoil(p.Data)
	spoil(p.One)
	spoil(p.Two)
}

func TestNoRoomIsReadNorWritten(t *testing.T) {
	for _, p := range packets() {
		in, b := roomy(p), withRoom(written(p))
		before, octets := whole(in), bytes.Clone(b[:cap(b)])
		checkPut(t, in, written(p))
		checkGet(t, b, p, api.OK)
		// What is missing lies in the room.
		checkWrong(t, b[:len(b)-1], api.ErrShort)
		if !alike(whole(in), before) || !bytes.Equal(b[:cap(b)], octets) {
			t.Errorf("what was handed in of %v was changed", short(p))
		}
	}
	checkWrong(t, withRoom([]byte{8, 0, 0, 5, 1}), api.ErrShort)
	checkWrong(t, withRoom([]byte{9, 0, 0, 7, 1, 2, 3}), api.ErrShort)
	checkWrong(t, withRoom([]byte{1, 0, 0, 5, 8}), api.ErrShort)
}

func TestAnswersAreNewMemory(t *testing.T) {
	for _, p := range packets() {
		in, octets := copied(p), slices.Concat(written(p), []byte{1, 2, 3})
		before := bytes.Clone(octets)
		b, _ := lcp.Put(in)
		spoil(b)
		got, _ := lcp.Get(octets)
		spoilAll(got)
		if !alike(in, p) || !bytes.Equal(octets, before) {
			t.Errorf("answers of %v share its memory", short(p))
		}
		checkPut(t, in, written(p))
		checkGet(t, octets, p, api.OK)
	}
}

func TestNothingIsKept(t *testing.T) {
	for _, p := range packets() {
		in, octets := copied(p), written(p)
		b, _ := lcp.Put(in)
		got, _ := lcp.Get(octets)
		spoilAll(in)
		spoil(octets)
		if !bytes.Equal(b, written(p)) || !alike(got, p) {
			t.Errorf("answers of %v changed with what was handed in", short(p))
		}
	}
}

func TestOptionsThatAreReadShareNoMemory(t *testing.T) {
	for _, l := range lists()[:14] {
		p := api.Packet{Proto: api.LCP, Code: 1, Opts: l}
		for i := range l {
			got, _ := lcp.Get(written(p))
			spoil(got.Opts[i].Data)
			if !sameOpts(got.Opts[:i], l[:i]) || !sameOpts(got.Opts[i+1:], l[i+1:]) {
				t.Errorf("of %v the option %d shares memory with others", short(p), i)
			}
		}
	}
}

func TestNoRoomIsHandedOut(t *testing.T) {
	secret := bytes.Repeat([]byte{0xa5}, 40)
	for _, code := range []byte{0, 5, 8, 9, 10, 11, 12} {
		for n := range 60 {
			data := slices.Concat(make([]byte, n), secret)[:n]
			p := api.Packet{Proto: api.LCP, Code: code, Data: data}
			b, _ := lcp.Put(p)
			got, _ := lcp.Get(slices.Concat(written(p), secret)[:len(written(p))])
			padded, _ := lcp.Get(slices.Concat(written(p), secret))
			for _, out := range [][]byte{b, got.Data, padded.Data} {
				if bytes.Contains(out[len(out):cap(out)], []byte{0xa5}) {
					t.Errorf("% x has room that was handed in", out)
				}
			}
		}
	}
}

// Errors leave nothing behind that a later call could tell.
func TestErrorsChangeNothing(t *testing.T) {
	for range 3 {
		checkPutWrong(t, api.Packet{Proto: api.LCP, Code: 1, Opts: []api.Opt{opt(1, 3)}}, api.ErrForm)
		checkPutWrong(t, api.Packet{Proto: api.LCP, Code: 1, Data: []byte{1}}, api.ErrField)
		checkWrong(t, []byte{1, 0, 0, 7, 1, 3, 0}, api.ErrForm)
		checkWrong(t, []byte{8, 0, 0, 5, 1}, api.ErrShort)
		for _, code := range codes() {
			checkPut(t, full(code), written(full(code)))
			checkGet(t, written(full(code)), full(code), api.OK)
		}
	}
}
