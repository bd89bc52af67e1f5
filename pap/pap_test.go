package pap_test

import (
	"bytes"
	"slices"
	"testing"

	"marline/api"
	"marline/ctl"
	"marline/pap"
)

// most is how many octets a control packet's data has at most.
const most = 65531

// The protocol that the chapter names.
const proto = 0xc023

// some gives n octets that look like chance, but are the same in every run.
func some(seed uint32, n int) []byte {
	out := make([]byte, n)
	for i := range out {
		seed = seed*1664525 + 1013904223
		out[i] = byte(seed >> 24)
	}
	return out
}

// codes are all codes that a packet can have.
func codes() []byte {
	out := make([]byte, 256)
	for i := range out {
		out[i] = byte(i)
	}
	return out
}

// plain are codes whose packets have Data.
func plain() []byte { return []byte{0, 4, 5, 6, 9, 128, 255} }

// row is what a code has.
type row struct{ one, two, data bool }

// table says in the chapter's words what a packet of a code has.
func table(code byte) row {
	if code == 1 {
		return row{one: true, two: true}
	} else if code == 2 || code == 3 {
		return row{one: true}
	}
	return row{data: true}
}

// full gives a packet of a code that has all that its code has.
func full(code byte) api.Packet {
	p := api.Packet{Proto: proto, Code: code, ID: code * 7}
	x := table(code)
	if x.one {
		p.One = []byte("name")
	}
	if x.two {
		p.Two = []byte("secret")
	}
	if x.data {
		p.Data = []byte{9, 8, 7}
	}
	return p
}

// longest gives a packet of a code other than 1 to 3 that has n octets of Data more
// than it may have.
func longest(code byte, n int) api.Packet {
	return api.Packet{Proto: proto, Code: code, ID: 1, Data: some(uint32(code), most+n)}
}

// lists are many texts, each of which may be, and be Data, too.
func lists() [][]byte {
	out := [][]byte{
		nil, {}, {0}, {1}, {255}, {0, 0}, {1, 0}, {2, 1, 0}, {1, 'a', 2, 'b', 'c'}, {0xc0, 0x23, 1, 0, 0, 4},
		[]byte("a"), []byte("bc"), []byte("peer"), bytes.Repeat([]byte{255}, 255), make([]byte, 255),
	}
	for _, n := range []int{3, 17, 126, 127, 128, 129, 251, 252, 253, 254, 255} {
		out = append(out, some(uint32(n), n))
	}
	return out
}

// datas are many Data.
func datas() [][]byte {
	out := append(lists(), make([]byte, 300), some(1, 1500), some(2, 65530))
	for n := range 40 {
		out = append(out, some(uint32(n), n))
	}
	return append(out, some(3, 256), some(4, 257), some(5, 511), some(6, 512))
}

// packets are packets that can be written, of each code.
func packets() []api.Packet {
	var out []api.Packet
	for _, code := range codes() {
		out = append(out, full(code), api.Packet{Proto: proto, Code: code}, api.Packet{Proto: proto, Code: code, ID: 255})
	}
	for i, one := range lists() {
		for j, two := range lists() {
			out = append(out, api.Packet{Proto: proto, Code: 1, ID: byte(i * j), One: one, Two: two})
		}
		for _, code := range []byte{2, 3} {
			out = append(out, api.Packet{Proto: proto, Code: code, ID: byte(i), One: one})
		}
	}
	for _, code := range plain() {
		for i, data := range datas() {
			out = append(out, api.Packet{Proto: proto, Code: code, ID: byte(i), Data: data})
		}
		out = append(out, longest(code, 0), longest(code, -1))
	}
	return out
}

// rows calls f with each row of 0 to most octets of those that are told; it may
// not keep them.
func rows(octets []byte, most int, f func(b []byte)) {
	var grow func(b []byte)
	grow = func(b []byte) {
		f(b)
		if len(b) == most {
			return
		}
		for _, c := range octets {
			grow(append(b, c))
		}
	}
	grow(make([]byte, 0, most))
}

// control says how layer 13 writes a control packet.
func control(code, id byte, data []byte) []byte {
	n := len(data) + 4
	return slices.Concat([]byte{code, id, byte(n / 256), byte(n % 256)}, data)
}

// written says in the chapter's words how a packet that can be written is.
func written(p api.Packet) []byte {
	one := slices.Concat([]byte{byte(len(p.One))}, p.One)
	two := slices.Concat([]byte{byte(len(p.Two))}, p.Two)
	if p.Code == 1 {
		return control(p.Code, p.ID, slices.Concat(one, two))
	} else if p.Code == 2 || p.Code == 3 {
		return control(p.Code, p.ID, one)
	}
	return control(p.Code, p.ID, p.Data)
}

// read says in the chapter's words which packet octets begin with.
func read(b []byte) (api.Packet, api.Errno) {
	code, id, data, errno := ctl.Get(b)
	if errno != api.OK {
		return api.Packet{}, errno
	}
	p := api.Packet{Proto: proto, Code: code, ID: id}
	at, x := 0, table(code)
	if x.data {
		p.Data = data
		return p, api.OK
	}
	for _, field := range []struct {
		has bool
		set func(b []byte)
	}{{x.one, func(b []byte) { p.One = b }}, {x.two, func(b []byte) { p.Two = b }}} {
		if !field.has {
			continue
		}
		if at >= len(data) {
			return api.Packet{}, api.ErrShort
		}
		from, to := at+1, at+1+int(data[at])
		if to > len(data) {
			return api.Packet{}, api.ErrShort
		}
		field.set(data[from:to])
		at = to
	}
	if at < len(data) {
		return api.Packet{}, api.ErrForm
	}
	return p, api.OK
}

// sameOpts tells whether two lists of options have the same types and data.
func sameOpts(a, b []api.Opt) bool {
	return slices.EqualFunc(a, b, func(a, b api.Opt) bool { return a.Type == b.Type && bytes.Equal(a.Data, b.Data) })
}

// alike tells whether two packets have the same fields, one by one.
func alike(a, b api.Packet) bool {
	return a.Proto == b.Proto && a.Code == b.Code && a.ID == b.ID && a.Sub == b.Sub && a.Magic == b.Magic &&
		sameOpts(a.Opts, b.Opts) && bytes.Equal(a.One, b.One) && bytes.Equal(a.Two, b.Two) &&
		bytes.Equal(a.Data, b.Data) && slices.Equal(a.Nums, b.Nums)
}

// copied gives the same packet in memory of its own; it has neither options nor
// Nums.
func copied(p api.Packet) api.Packet {
	p.One, p.Two, p.Data = bytes.Clone(p.One), bytes.Clone(p.Two), bytes.Clone(p.Data)
	return p
}

// brief gives at most some 24 octets, so that what fails can be read.
func brief(b []byte) []byte { return b[:min(len(b), 24)] }

// short gives a packet of which what fails can be read.
func short(p api.Packet) api.Packet {
	p.One, p.Two, p.Data = brief(p.One), brief(p.Two), brief(p.Data)
	return p
}

// checkPut holds what Put answers against what is wanted.
func checkPut(t *testing.T, p api.Packet, want []byte) {
	t.Helper()
	if b, errno := pap.Put(p); errno != api.OK || !bytes.Equal(b, want) {
		t.Errorf("Put(%v) = %d octets, % x.., %d, want %d, % x..", short(p), len(b), brief(b), errno, len(want), brief(want))
	}
}

// checkPutWrong wants that Put answers an error, and (K3) no octets.
func checkPutWrong(t *testing.T, p api.Packet, code api.Errno) {
	t.Helper()
	if b, errno := pap.Put(p); errno != code || len(b) != 0 {
		t.Errorf("Put(%v) = %d octets, % x.., %d, want none, %d", short(p), len(b), brief(b), errno, code)
	}
}

// checkGet holds what Get answers against what is wanted.
func checkGet(t *testing.T, b []byte, want api.Packet, code api.Errno) {
	t.Helper()
	if p, errno := pap.Get(b); errno != code || !alike(p, want) {
		t.Errorf("Get(%d octets, % x..) = %v, %d, want %v, %d", len(b), brief(b), short(p), errno, short(want), code)
	}
}

// checkRead wants that octets are read as a packet.
func checkRead(t *testing.T, b []byte, want api.Packet) {
	t.Helper()
	checkGet(t, b, want, api.OK)
}

// checkWrong wants that Get answers an error, and (K3) nothing else.
func checkWrong(t *testing.T, b []byte, code api.Errno) {
	t.Helper()
	checkGet(t, b, api.Packet{}, code)
}

// checkModel holds what Get answers against the chapter's words.
func checkModel(t *testing.T, b []byte) {
	t.Helper()
	want, errno := read(b)
	checkGet(t, b, want, errno)
}

// P17.1: Put.

func TestPutOfKnownPackets(t *testing.T) {
	for _, x := range []struct {
		p    api.Packet
		want []byte
	}{
		{api.Packet{Proto: api.PAP, Code: 1, One: []byte("a"), Two: []byte("bc")},
			[]byte{0x01, 0x00, 0x00, 0x09, 0x01, 0x61, 0x02, 0x62, 0x63}},
		{api.Packet{Proto: api.PAP, Code: 1, ID: 7}, []byte{0x01, 0x07, 0x00, 0x06, 0x00, 0x00}},
		{api.Packet{Proto: api.PAP, Code: 1, ID: 8, One: []byte("ab")}, []byte{0x01, 0x08, 0x00, 0x08, 0x02, 0x61, 0x62, 0x00}},
		{api.Packet{Proto: api.PAP, Code: 1, ID: 9, Two: []byte("ab")}, []byte{0x01, 0x09, 0x00, 0x08, 0x00, 0x02, 0x61, 0x62}},
		{api.Packet{Proto: api.PAP, Code: 2, ID: 255, One: []byte("hi")}, []byte{0x02, 0xff, 0x00, 0x07, 0x02, 0x68, 0x69}},
		{api.Packet{Proto: api.PAP, Code: 2}, []byte{0x02, 0x00, 0x00, 0x05, 0x00}},
		{api.Packet{Proto: api.PAP, Code: 3, ID: 1, One: []byte{0}}, []byte{0x03, 0x01, 0x00, 0x06, 0x01, 0x00}},
		{api.Packet{Proto: api.PAP, Code: 3, One: []byte{}}, []byte{0x03, 0x00, 0x00, 0x05, 0x00}},
		{api.Packet{Proto: api.PAP}, []byte{0x00, 0x00, 0x00, 0x04}},
		{api.Packet{Proto: api.PAP, Code: 4, ID: 1, Data: []byte("bye")}, []byte{0x04, 0x01, 0x00, 0x07, 0x62, 0x79, 0x65}},
		{api.Packet{Proto: api.PAP, Code: 255, ID: 254, Data: []byte{253}}, []byte{0xff, 0xfe, 0x00, 0x05, 0xfd}},
	} {
		checkPut(t, x.p, x.want)
	}
}

func TestPutOfEachCodeAndIdentifier(t *testing.T) {
	for _, code := range codes() {
		for id := range 256 {
			p := full(code)
			p.ID = byte(id)
			checkPut(t, p, written(p))
		}
	}
}

func TestPutOfManyPackets(t *testing.T) {
	for _, p := range packets() {
		checkPut(t, p, written(p))
	}
}

func TestPutOfEachLengthOfTexts(t *testing.T) {
	for n := range 256 {
		one := some(1, n)
		for _, code := range []byte{2, 3} {
			p := api.Packet{Proto: proto, Code: code, ID: 3, One: one}
			checkPut(t, p, written(p))
		}
		for m := range 256 {
			p := api.Packet{Proto: proto, Code: 1, ID: 4, One: one, Two: some(2, m)}
			checkPut(t, p, written(p))
		}
	}
}

// tooMany are numbers of octets that no text may have; of some the lowest octet is
// that of a text that may be.
func tooMany() []int {
	return []int{256, 257, 258, 300, 511, 512, 513, 65531, 65532, 65536, 65537, 1 << 17}
}

func TestPutTellsTextsThatAreTooLong(t *testing.T) {
	for _, n := range tooMany() {
		long := some(7, n)
		for _, other := range [][]byte{nil, {1}, some(8, 255), some(9, 256), long} {
			checkPutWrong(t, api.Packet{Proto: proto, Code: 1, One: long, Two: other}, api.ErrLong)
			checkPutWrong(t, api.Packet{Proto: proto, Code: 1, One: other, Two: long}, api.ErrLong)
		}
		for _, code := range []byte{2, 3} {
			checkPutWrong(t, api.Packet{Proto: proto, Code: code, ID: 1, One: long}, api.ErrLong)
		}
	}
}

func TestPutOfLongData(t *testing.T) {
	for _, code := range codes() {
		if !table(code).data {
			continue
		}
		for _, n := range []int{-65531, -65275, -1, 0} {
			p := longest(code, n)
			checkPut(t, p, written(p))
		}
		for _, n := range []int{1, 2, 4, 5, 6, 300} {
			checkPutWrong(t, longest(code, n), api.ErrLong)
		}
	}
	checkPutWrong(t, longest(9, 65536), api.ErrLong)
	checkPutWrong(t, longest(9, 1<<20), api.ErrLong)
}

func TestPutTellsOtherProtocols(t *testing.T) {
	for n := range 65536 {
		if n == proto {
			continue
		}
		for _, code := range []byte{0, 1, 2, 3, 4} {
			p := full(code)
			p.Proto = uint16(n)
			checkPutWrong(t, p, api.ErrKind)
		}
	}
}

// alien sets a field that a code may have, or may not.
type alien struct {
	may bool
	set func(p *api.Packet)
}

// aliens are what sets each field to what isn't nothing.
func aliens(code byte) []alien {
	x := table(code)
	return []alien{
		{x.one, func(p *api.Packet) { p.One = []byte{0} }},
		{x.one, func(p *api.Packet) { p.One = []byte{1, 2} }},
		{x.two, func(p *api.Packet) { p.Two = []byte{0} }},
		{x.two, func(p *api.Packet) { p.Two = []byte{1, 2} }},
		{x.data, func(p *api.Packet) { p.Data = []byte{0} }},
		{x.data, func(p *api.Packet) { p.Data = []byte{7, 2} }},
		{false, func(p *api.Packet) { p.Opts = []api.Opt{{}} }},
		{false, func(p *api.Packet) { p.Opts = []api.Opt{{Type: 1, Data: []byte{5, 0xdc}}, {Type: 7}} }},
		{false, func(p *api.Packet) { p.Sub = 1 }},
		{false, func(p *api.Packet) { p.Sub = 0x8000 }},
		{false, func(p *api.Packet) { p.Magic = 1 }},
		{false, func(p *api.Packet) { p.Magic = 1 << 16 }},
		{false, func(p *api.Packet) { p.Magic = 1 << 31 }},
		{false, func(p *api.Packet) { p.Nums = []uint32{0} }},
		{false, func(p *api.Packet) { p.Nums = make([]uint32, 12) }},
	}
}

func TestPutTellsFieldsThatACodeLacks(t *testing.T) {
	for _, code := range codes() {
		for _, x := range aliens(code) {
			for _, p := range []api.Packet{full(code), {Proto: proto, Code: code}} {
				x.set(&p)
				if x.may {
					checkPut(t, p, written(p))
					continue
				}
				checkPutWrong(t, p, api.ErrField)
			}
		}
	}
}

func TestPutTellsTwoFieldsThatACodeLacks(t *testing.T) {
	for _, code := range codes() {
		for i, x := range aliens(code) {
			for _, y := range aliens(code)[i+1:] {
				p := full(code)
				x.set(&p)
				y.set(&p)
				if x.may && y.may {
					checkPut(t, p, written(p))
					continue
				}
				checkPutWrong(t, p, api.ErrField)
			}
		}
	}
}

// K1: a list that is empty is nothing, as one that is nil.
func TestEmptyListsAreNothing(t *testing.T) {
	for _, code := range codes() {
		p, x := full(code), table(code)
		want := written(p)
		p.Opts, p.Nums = make([]api.Opt, 0, 9), []uint32{}
		if !x.one {
			p.One = []byte{}
		}
		if !x.two {
			p.Two = make([]byte, 0, 9)
		}
		if !x.data {
			p.Data = make([]byte, 0, 9)
		}
		checkPut(t, p, want)
		bare := api.Packet{Proto: proto, Code: code, One: []byte{}, Two: []byte{}, Data: []byte{}}
		checkPut(t, bare, written(api.Packet{Code: code}))
	}
}

// K2: another protocol ahead of a field, a field ahead of what is too long.
func TestPutTellsTheFirstError(t *testing.T) {
	long := some(1, most+1)
	for _, code := range codes() {
		for _, p := range []api.Packet{
			{One: long}, {Two: long}, {Data: long}, {One: long, Two: long}, {One: long, Data: long},
			{One: []byte{1}, Two: long, Data: []byte{1}},
		} {
			p.Code = code
			checkPutWrong(t, p, api.ErrKind)
			p.Proto = proto
			want, x := api.ErrLong, table(code)
			if len(p.One) > 0 && !x.one || len(p.Two) > 0 && !x.two || len(p.Data) > 0 && !x.data {
				want = api.ErrField
			}
			checkPutWrong(t, p, want)
			for _, y := range aliens(code)[6:] {
				q := p
				y.set(&q)
				checkPutWrong(t, q, api.ErrField)
				q.Proto = api.CHAP
				checkPutWrong(t, q, api.ErrKind)
			}
		}
	}
}

// P17.2: Get.

func TestGetOfKnownOctets(t *testing.T) {
	for _, x := range []struct {
		b    []byte
		want api.Packet
	}{
		{[]byte{1, 0, 0, 9, 1, 0x61, 2, 0x62, 0x63}, api.Packet{Proto: api.PAP, Code: 1, One: []byte("a"), Two: []byte("bc")}},
		{[]byte{1, 5, 0, 6, 0, 0}, api.Packet{Proto: api.PAP, Code: 1, ID: 5}},
		{[]byte{1, 5, 0, 7, 0, 1, 9}, api.Packet{Proto: api.PAP, Code: 1, ID: 5, Two: []byte{9}}},
		{[]byte{1, 5, 0, 7, 1, 9, 0}, api.Packet{Proto: api.PAP, Code: 1, ID: 5, One: []byte{9}}},
		{[]byte{1, 5, 0, 7, 1, 9, 0, 4, 4}, api.Packet{Proto: api.PAP, Code: 1, ID: 5, One: []byte{9}}},
		{[]byte{2, 6, 0, 5, 0}, api.Packet{Proto: api.PAP, Code: 2, ID: 6}},
		{[]byte{2, 6, 0, 7, 2, 8, 9}, api.Packet{Proto: api.PAP, Code: 2, ID: 6, One: []byte{8, 9}}},
		{[]byte{3, 7, 0, 7, 2, 8, 9, 10}, api.Packet{Proto: api.PAP, Code: 3, ID: 7, One: []byte{8, 9}}},
		{[]byte{0, 0, 0, 4}, api.Packet{Proto: api.PAP}},
		{[]byte{4, 1, 0, 5, 9}, api.Packet{Proto: api.PAP, Code: 4, ID: 1, Data: []byte{9}}},
		{[]byte{255, 1, 0, 7, 1, 9, 0}, api.Packet{Proto: api.PAP, Code: 255, ID: 1, Data: []byte{1, 9, 0}}},
	} {
		checkRead(t, x.b, x.want)
	}
}

func TestGetOfWrongOctets(t *testing.T) {
	for _, x := range []struct {
		b    []byte
		code api.Errno
	}{
		{nil, api.ErrShort},
		{[]byte{}, api.ErrShort},
		{[]byte{1}, api.ErrShort},
		{[]byte{1, 0, 0}, api.ErrShort},
		{[]byte{1, 0, 0, 0}, api.ErrForm},
		{[]byte{1, 0, 0, 3, 0, 0}, api.ErrForm},
		{[]byte{4, 0, 0, 3}, api.ErrForm},
		{[]byte{4, 0, 0, 5}, api.ErrShort},
		{[]byte{1, 0, 0, 7, 0, 0}, api.ErrShort},
		{[]byte{1, 0, 1, 6, 0, 0}, api.ErrShort},
		// No length of One, or of Two.
		{[]byte{1, 0, 0, 4}, api.ErrShort},
		{[]byte{2, 0, 0, 4}, api.ErrShort},
		{[]byte{3, 0, 0, 4}, api.ErrShort},
		{[]byte{1, 0, 0, 5, 0}, api.ErrShort},
		{[]byte{1, 0, 0, 6, 1, 9}, api.ErrShort},
		// Fewer octets than it tells.
		{[]byte{1, 0, 0, 5, 1}, api.ErrShort},
		{[]byte{1, 0, 0, 6, 2, 9}, api.ErrShort},
		{[]byte{1, 0, 0, 6, 255, 0}, api.ErrShort},
		{[]byte{1, 0, 0, 6, 0, 1}, api.ErrShort},
		{[]byte{1, 0, 0, 7, 0, 2, 9}, api.ErrShort},
		{[]byte{2, 0, 0, 5, 1}, api.ErrShort},
		{[]byte{3, 0, 0, 6, 2, 9}, api.ErrShort},
		// What is missing stands behind the packet.
		{[]byte{1, 0, 0, 4, 0, 0}, api.ErrShort},
		{[]byte{1, 0, 0, 5, 0, 0}, api.ErrShort},
		{[]byte{1, 0, 0, 6, 0, 1, 9}, api.ErrShort},
		{[]byte{2, 0, 0, 4, 0}, api.ErrShort},
		{[]byte{3, 0, 0, 5, 1, 9}, api.ErrShort},
		// Octets that are left behind all.
		{[]byte{1, 0, 0, 7, 0, 0, 0}, api.ErrForm},
		{[]byte{1, 0, 0, 9, 1, 9, 1, 9, 9}, api.ErrForm},
		{[]byte{2, 0, 0, 6, 0, 0}, api.ErrForm},
		{[]byte{2, 0, 0, 9, 1, 0x61, 2, 0x62, 0x63}, api.ErrForm},
		{[]byte{3, 0, 0, 7, 1, 9, 9}, api.ErrForm},
	} {
		checkWrong(t, x.b, x.code)
	}
}

func TestGetOfEachCodeAndIdentifier(t *testing.T) {
	for _, code := range codes() {
		for id := range 256 {
			p := full(code)
			p.ID = byte(id)
			checkRead(t, written(p), p)
		}
	}
}

// Each length that is told, by each number of octets that are there, about it.
func TestGetOfEachLengthOfTexts(t *testing.T) {
	for n := range 256 {
		for m := max(n-2, 0); m <= n+2; m++ {
			text := slices.Concat([]byte{byte(n)}, some(3, m))
			for _, code := range []byte{1, 2, 3} {
				checkModel(t, control(code, 1, text))
				checkModel(t, control(code, 1, slices.Concat([]byte{0}, text)))
				checkModel(t, control(code, 1, slices.Concat([]byte{2, 8, 9}, text)))
				checkModel(t, control(code, 1, slices.Concat(text, []byte{2, 8, 9})))
				checkModel(t, control(code, 1, slices.Concat(text, text)))
			}
		}
		short := slices.Concat([]byte{byte(n)}, some(3, max(n-1, 0)))
		long := slices.Concat([]byte{byte(n)}, some(3, n+1))
		for _, code := range []byte{2, 3} {
			if n > 0 {
				checkWrong(t, control(code, 1, short), api.ErrShort)
			}
			checkWrong(t, control(code, 1, long), api.ErrForm)
			checkRead(t, control(code, 1, long[:n+1]), api.Packet{Proto: proto, Code: code, ID: 1, One: long[1 : n+1]})
		}
	}
}

func TestGetOfManyOctetsBehindTexts(t *testing.T) {
	for _, n := range []int{1, 2, 255, 256, 257, 1500, most - 2} {
		for _, code := range []byte{1, 2, 3} {
			checkWrong(t, control(code, 1, slices.Concat([]byte{0, 0}, some(5, n))), api.ErrForm)
		}
	}
}

// K2: an error of the control packet ahead of one of its data.
func TestGetTellsTheFirstError(t *testing.T) {
	for _, code := range codes() {
		for _, data := range [][]byte{{}, {0}, {1}, {0, 0}, {0, 0, 0}, {1, 9, 1}, {1, 9, 1, 9, 9}, {9, 9, 9}} {
			b := control(code, 1, data)
			for length := range 4 {
				b[3] = byte(length)
				checkWrong(t, b, api.ErrForm)
			}
			b[3] = byte(len(b) + 1)
			checkWrong(t, b, api.ErrShort)
			checkWrong(t, b[:3], api.ErrShort)
		}
	}
}

func TestGetOfAllShortRows(t *testing.T) {
	for _, code := range []byte{0, 1, 2, 3, 4, 255} {
		rows([]byte{0, 1, 2, 3, 4, 6, 255}, 5, func(data []byte) {
			checkModel(t, control(code, 3, data))
			checkModel(t, slices.Concat([]byte{code}, data))
			checkModel(t, slices.Concat([]byte{code, 1, 0}, data))
		})
		rows([]byte{0, 1, 3}, 8, func(data []byte) { checkModel(t, control(code, 3, data)) })
	}
}

func TestGetOfManyRows(t *testing.T) {
	for _, code := range codes() {
		for n := range 60 {
			data := some(uint32(n), n)
			checkModel(t, control(code, byte(n), data))
			for i := range data {
				// Lengths that are small let two texts be read.
				data[i] %= byte(n + 1)
			}
			b := control(code, byte(n), data)
			checkModel(t, b)
			b[3] -= byte(n % 5)
			checkModel(t, b)
		}
	}
}

func TestGetOfPacketsThatAreCutOff(t *testing.T) {
	for _, p := range packets() {
		b := written(p)
		for n := range min(len(b), 60) {
			checkWrong(t, b[:n], api.ErrShort)
		}
		checkWrong(t, b[:len(b)-1], api.ErrShort)
	}
}

// A packet whose length tells fewer octets than its texts have, though they are
// there.
func TestGetOfTextsThatPassTheEnd(t *testing.T) {
	for _, code := range []byte{1, 2, 3} {
		b := written(full(code))
		for n := 4; n < len(b); n++ {
			b[3] = byte(n)
			checkWrong(t, b, api.ErrShort)
		}
	}
}

// What is written, and read again.

func TestWhatIsWrittenIsRead(t *testing.T) {
	for _, p := range packets() {
		b, errno := pap.Put(p)
		if errno != api.OK {
			t.Errorf("Put(%v): %d", short(p), errno)
		}
		checkRead(t, b, p)
	}
}

func TestWhateverStandsBehindCountsForNothing(t *testing.T) {
	for i, p := range packets() {
		b := written(p)
		for _, tail := range [][]byte{{0}, {1}, {1, 9}, {255, 255, 255, 255}, some(4, 300)} {
			checkRead(t, slices.Concat(b, tail), p)
		}
		if i%20 == 0 {
			checkRead(t, slices.Concat(b, b), p)
			checkRead(t, slices.Concat(b, make([]byte, 70000)), p)
		}
	}
}

func TestWhatIsReadHasNoOtherWriting(t *testing.T) {
	for _, code := range codes() {
		rows([]byte{0, 1, 2, 3, 9}, 5, func(data []byte) {
			b := slices.Concat(control(code, 1, data), []byte{0, 0})
			p, errno := pap.Get(b)
			if errno == api.OK {
				checkPut(t, p, b[:len(b)-2])
			}
		})
	}
}

func TestUnlikePacketsDiffer(t *testing.T) {
	seen := map[string]api.Packet{}
	for _, p := range packets() {
		b, _ := pap.Put(p)
		if other, ok := seen[string(b)]; ok && !alike(p, other) {
			t.Errorf("%v and %v are both written as % x..", short(p), short(other), brief(b))
		}
		seen[string(b)] = p
	}
}

// K4 to K6: nothing is changed, kept, or read behind a list's length.

// withRoom gives octets in a memory that has more behind them.
func withRoom(b []byte) []byte {
	return slices.Concat(b, make([]byte, 20), bytes.Repeat([]byte{0xa5}, 40))[:len(b)]
}

// roomy gives the same packet in memory that has more behind each of its lists.
func roomy(p api.Packet) api.Packet {
	p.One, p.Two, p.Data = withRoom(p.One), withRoom(p.Two), withRoom(p.Data)
	p.Opts, p.Nums = make([]api.Opt, 0, 3), make([]uint32, 0, 12)
	return p
}

// whole gives a copy of all that the memory of a packet's texts and its Data holds,
// room and all.
func whole(p api.Packet) api.Packet {
	p.One, p.Two, p.Data = p.One[:cap(p.One)], p.Two[:cap(p.Two)], p.Data[:cap(p.Data)]
	return copied(p)
}

// spoil overwrites octets, and what lies behind them in their memory.
func spoil(b []byte) {
	b = b[:cap(b)]
	for i := range b {
		b[i] ^= 0xa5
	}
}

// spoilAll overwrites the texts and the Data of a packet, and all that their memory
// holds.
func spoilAll(p api.Packet) {
	spoil(p.One)
	spoil(p.Two)
	spoil(p.Data)
}

func TestNoRoomIsReadNorWritten(t *testing.T) {
	for _, p := range packets() {
		in, b := roomy(p), withRoom(written(p))
		before, octets := whole(in), bytes.Clone(b[:cap(b)])
		checkPut(t, in, written(p))
		checkRead(t, b, p)
		// What is missing lies in the room.
		checkWrong(t, b[:len(b)-1], api.ErrShort)
		if !alike(whole(in), before) || !bytes.Equal(b[:cap(b)], octets) {
			t.Errorf("what was handed in of %v was changed", short(p))
		}
	}
	checkWrong(t, withRoom([]byte{1, 0, 0}), api.ErrShort)
	checkWrong(t, withRoom([]byte{1, 0, 0, 5, 0}), api.ErrShort)
	checkWrong(t, withRoom([]byte{1, 0, 0, 6, 0, 3}), api.ErrShort)
}

func TestPutThatAnswersAnErrorChangesNothing(t *testing.T) {
	for _, p := range []api.Packet{
		{Proto: proto, Code: 1, One: some(1, 256), Two: some(2, 9)}, {Proto: proto, Code: 1, One: some(1, 9), Two: some(2, 256)},
		{Proto: proto, Code: 2, One: []byte{1}, Two: []byte{2}}, {Proto: proto, Code: 9, One: []byte{1}, Data: []byte{2}},
		{Proto: api.CHAP, Code: 1, One: []byte{1}, Two: []byte{2}}, longest(9, 1),
	} {
		in := roomy(p)
		before := whole(in)
		if _, errno := pap.Put(in); errno == api.OK || !alike(whole(in), before) {
			t.Errorf("Put(%v) was right, or changed it", short(p))
		}
	}
}

func TestAnswersAreNewMemory(t *testing.T) {
	for _, p := range packets() {
		in, octets := copied(p), slices.Concat(written(p), []byte{1, 2, 3})
		before := bytes.Clone(octets)
		b, _ := pap.Put(in)
		spoil(b)
		got, _ := pap.Get(octets)
		spoilAll(got)
		if !alike(in, p) || !bytes.Equal(octets, before) {
			t.Errorf("answers of %v share its memory", short(p))
		}
		checkPut(t, in, written(p))
		checkRead(t, octets, p)
	}
}

func TestNothingIsKept(t *testing.T) {
	for _, p := range packets() {
		in, octets := copied(p), written(p)
		b, _ := pap.Put(in)
		got, _ := pap.Get(octets)
		spoilAll(in)
		spoil(octets)
		if !bytes.Equal(b, written(p)) || !alike(got, p) {
			t.Errorf("answers of %v changed with what was handed in", short(p))
		}
	}
}

func TestTextsThatAreReadShareNoMemory(t *testing.T) {
	for _, one := range lists() {
		for _, two := range lists() {
			p := api.Packet{Proto: proto, Code: 1, One: one, Two: two}
			got, _ := pap.Get(written(p))
			spoil(got.One)
			if !bytes.Equal(got.Two, two) {
				t.Errorf("of %v One shares memory with Two", short(p))
			}
			got, _ = pap.Get(written(p))
			spoil(got.Two)
			if !bytes.Equal(got.One, one) {
				t.Errorf("of %v Two shares memory with One", short(p))
			}
		}
	}
}

// A name and a password may be the same octets, in the same memory.
func TestPutOfTextsThatShareMemory(t *testing.T) {
	text := some(6, 30)
	for n := range 31 {
		p := api.Packet{Proto: proto, Code: 1, One: text[:n], Two: text}
		checkPut(t, p, written(p))
		p.One, p.Two = text[n:], text[:n]
		checkPut(t, p, written(p))
	}
	if !bytes.Equal(text, some(6, 30)) {
		t.Error("what was handed in was changed")
	}
}

func TestNoRoomIsHandedOut(t *testing.T) {
	secret := bytes.Repeat([]byte{0xa5}, 40)
	for _, code := range []byte{0, 1, 2, 3, 4, 255} {
		for n := range 60 {
			text := slices.Concat(make([]byte, n), secret)[:n]
			p := api.Packet{Proto: proto, Code: code, Data: text}
			if table(code).one {
				p.One, p.Data = text, nil
			}
			if table(code).two {
				p.Two = text
			}
			b, _ := pap.Put(p)
			got, _ := pap.Get(slices.Concat(written(p), secret)[:len(written(p))])
			padded, _ := pap.Get(slices.Concat(written(p), secret))
			for _, out := range [][]byte{b, got.One, got.Two, got.Data, padded.One, padded.Two, padded.Data} {
				if bytes.Contains(out[len(out):cap(out)], []byte{0xa5}) {
					t.Errorf("% x has room that was handed in", out)
				}
			}
		}
	}
}

// Errors leave nothing behind that a later call could tell.
func TestErrorsChangeNothing(t *testing.T) {
	for range 3 {
		checkPutWrong(t, api.Packet{Proto: proto, Code: 1, One: some(1, 256)}, api.ErrLong)
		checkPutWrong(t, api.Packet{Proto: proto, Code: 2, Two: []byte{1}}, api.ErrField)
		checkPutWrong(t, api.Packet{Proto: api.LCP, Code: 1}, api.ErrKind)
		checkWrong(t, []byte{1, 0, 0, 7, 1, 9, 1}, api.ErrShort)
		checkWrong(t, []byte{1, 0, 0, 7, 0, 0, 0}, api.ErrForm)
		for _, code := range codes() {
			p := full(code)
			checkPut(t, p, written(p))
			checkRead(t, written(p), p)
		}
	}
}
