package chap_test

import (
	"bytes"
	"slices"
	"testing"

	"marline/api"
	"marline/chap"
	"marline/ctl"
)

// most is how many octets a control packet's data has at most; name how many a name
// has at most behind the shortest value.
const (
	most = 65531
	name = most - 2
)

// The protocol that the chapter names.
const proto = 0xc223

// some gives n octets that look like chance, but are the same in every run.
func some(seed uint32, n int) []byte {
	out := make([]byte, n)
	for i := range out {
		seed = seed*1664525 + 1013904223
		out[i] = byte(seed >> 24)
	}
	return out
}

// codes are all codes that a packet can have.
func codes() []byte {
	out := make([]byte, 256)
	for i := range out {
		out[i] = byte(i)
	}
	return out
}

// plain are codes whose packets have Data.
func plain() []byte { return []byte{0, 3, 4, 5, 6, 129, 255} }

// valued says in the chapter's words whether a code's packets have a value and a
// name; all others have Data.
func valued(code byte) bool { return code == 1 || code == 2 }

// full gives a packet of a code that has all that its code has.
func full(code byte) api.Packet {
	p := api.Packet{Proto: proto, Code: code, ID: code * 7}
	if valued(code) {
		p.One, p.Two = []byte{9, 8, 7, 6}, []byte("peer")
	} else {
		p.Data = []byte("welcome")
	}
	return p
}

// least gives a packet of a code that has no more than it must.
func least(code byte) api.Packet {
	p := api.Packet{Proto: proto, Code: code}
	if valued(code) {
		p.One = []byte{0}
	}
	return p
}

// longest gives a packet of a code whose data have n octets more than they may have;
// its value, if it has one, has size octets.
func longest(code byte, size, n int) api.Packet {
	p := api.Packet{Proto: proto, Code: code, ID: 1}
	if valued(code) {
		p.One, p.Two = some(1, size), some(uint32(code), most-1-size+n)
	} else {
		p.Data = some(uint32(code), most+n)
	}
	return p
}

// lists are many texts, each of which may be a name, and Data, and, but for those of
// no octets, a value, too.
func lists() [][]byte {
	out := [][]byte{
		nil, {}, {0}, {1}, {255}, {0, 0}, {1, 0}, {2, 1, 0}, {1, 'a', 2, 'b', 'c'}, {0xc2, 0x23, 1, 0, 0, 4},
		[]byte("a"), []byte("bc"), []byte("peer"), bytes.Repeat([]byte{255}, 255), make([]byte, 255),
	}
	for _, n := range []int{3, 15, 16, 17, 126, 127, 128, 129, 251, 252, 253, 254, 255} {
		out = append(out, some(uint32(n), n))
	}
	return out
}

// datas are many names, or Data.
func datas() [][]byte {
	out := append(lists(), make([]byte, 300), some(1, 1500), some(2, 65270))
	for n := range 40 {
		out = append(out, some(uint32(n), n))
	}
	return append(out, some(3, 256), some(4, 257), some(5, 511), some(6, 512))
}

// packets are packets that can be written, of each code.
func packets() []api.Packet {
	var out []api.Packet
	for _, code := range codes() {
		p := least(code)
		p.ID = 255
		out = append(out, full(code), least(code), p)
	}
	for i, one := range lists() {
		for j, two := range datas() {
			if len(one) > 0 {
				code := byte(1 + (i+j)%2)
				out = append(out, api.Packet{Proto: proto, Code: code, ID: byte(i * j), One: one, Two: two})
			}
		}
	}
	for _, code := range plain() {
		for i, data := range datas() {
			out = append(out, api.Packet{Proto: proto, Code: code, ID: byte(i), Data: data})
		}
	}
	for _, code := range append(plain(), 1, 2) {
		out = append(out, longest(code, 1, 0), longest(code, 1, -1), longest(code, 255, 0))
	}
	return out
}

// rows calls f with each row of 0 to most octets of those that are told; it may
// not keep them.
func rows(octets []byte, most int, f func(b []byte)) {
	var grow func(b []byte)
	grow = func(b []byte) {
		f(b)
		if len(b) == most {
			return
		}
		for _, c := range octets {
			grow(append(b, c))
		}
	}
	grow(make([]byte, 0, most))
}

// control says how layer 13 writes a control packet.
func control(code, id byte, data []byte) []byte {
	n := len(data) + 4
	return slices.Concat([]byte{code, id, byte(n / 256), byte(n % 256)}, data)
}

// written says in the chapter's words how a packet that can be written is.
func written(p api.Packet) []byte {
	if valued(p.Code) {
		return control(p.Code, p.ID, slices.Concat([]byte{byte(len(p.One))}, p.One, p.Two))
	}
	return control(p.Code, p.ID, p.Data)
}

// read says in the chapter's words which packet octets begin with.
func read(b []byte) (api.Packet, api.Errno) {
	code, id, data, errno := ctl.Get(b)
	if errno != api.OK {
		return api.Packet{}, errno
	}
	if !valued(code) {
		return api.Packet{Proto: proto, Code: code, ID: id, Data: data}, api.OK
	}
	if len(data) < 1 {
		return api.Packet{}, api.ErrShort
	}
	n, behind := int(data[0]), data[1:]
	if n == 0 {
		return api.Packet{}, api.ErrForm
	}
	if len(behind) < n {
		return api.Packet{}, api.ErrShort
	}
	return api.Packet{Proto: proto, Code: code, ID: id, One: behind[:n], Two: behind[n:]}, api.OK
}

// sameOpts tells whether two lists of options have the same types and data.
func sameOpts(a, b []api.Opt) bool {
	return slices.EqualFunc(a, b, func(a, b api.Opt) bool { return a.Type == b.Type && bytes.Equal(a.Data, b.Data) })
}

// alike tells whether two packets have the same fields, one by one.
func alike(a, b api.Packet) bool {
	return a.Proto == b.Proto && a.Code == b.Code && a.ID == b.ID && a.Sub == b.Sub && a.Magic == b.Magic &&
		sameOpts(a.Opts, b.Opts) && bytes.Equal(a.One, b.One) && bytes.Equal(a.Two, b.Two) &&
		bytes.Equal(a.Data, b.Data) && slices.Equal(a.Nums, b.Nums)
}

// copied gives the same packet in memory of its own; it has neither options nor
// Nums.
func copied(p api.Packet) api.Packet {
	p.One, p.Two, p.Data = bytes.Clone(p.One), bytes.Clone(p.Two), bytes.Clone(p.Data)
	return p
}

// brief gives at most some 24 octets, so that what fails can be read.
func brief(b []byte) []byte { return b[:min(len(b), 24)] }

// short gives a packet of which what fails can be read.
func short(p api.Packet) api.Packet {
	p.One, p.Two, p.Data = brief(p.One), brief(p.Two), brief(p.Data)
	return p
}

// checkPut holds what Put answers against what is wanted.
func checkPut(t *testing.T, p api.Packet, want []byte) {
	t.Helper()
	if b, errno := chap.Put(p); errno != api.OK || !bytes.Equal(b, want) {
		t.Errorf("Put(%v) = %d octets, % x.., %d, want %d, % x..", short(p), len(b), brief(b), errno, len(want), brief(want))
	}
}

// checkPutWrong wants that Put answers an error, and (K3) no octets.
func checkPutWrong(t *testing.T, p api.Packet, code api.Errno) {
	t.Helper()
	if b, errno := chap.Put(p); errno != code || len(b) != 0 {
		t.Errorf("Put(%v) = %d octets, % x.., %d, want none, %d", short(p), len(b), brief(b), errno, code)
	}
}

// checkGet holds what Get answers against what is wanted.
func checkGet(t *testing.T, b []byte, want api.Packet, code api.Errno) {
	t.Helper()
	if p, errno := chap.Get(b); errno != code || !alike(p, want) {
		t.Errorf("Get(%d octets, % x..) = %v, %d, want %v, %d", len(b), brief(b), short(p), errno, short(want), code)
	}
}

// checkRead wants that octets are read as a packet.
func checkRead(t *testing.T, b []byte, want api.Packet) {
	t.Helper()
	checkGet(t, b, want, api.OK)
}

// checkWrong wants that Get answers an error, and (K3) nothing else.
func checkWrong(t *testing.T, b []byte, code api.Errno) {
	t.Helper()
	checkGet(t, b, api.Packet{}, code)
}

// checkModel holds what Get answers against the chapter's words.
func checkModel(t *testing.T, b []byte) {
	t.Helper()
	want, errno := read(b)
	checkGet(t, b, want, errno)
}

// P18.1: Put.

func TestPutOfKnownPackets(t *testing.T) {
	for _, x := range []struct {
		p    api.Packet
		want []byte
	}{
		{api.Packet{Proto: api.CHAP, Code: 1, One: []byte{7}, Two: []byte("a")}, []byte{0x01, 0x00, 0x00, 0x07, 0x01, 0x07, 0x61}},
		{api.Packet{Proto: api.CHAP, Code: 1, ID: 7, One: []byte{0}}, []byte{0x01, 0x07, 0x00, 0x06, 0x01, 0x00}},
		{api.Packet{Proto: api.CHAP, Code: 1, ID: 8, One: []byte("ab"), Two: []byte("cde")},
			[]byte{0x01, 0x08, 0x00, 0x0a, 0x02, 0x61, 0x62, 0x63, 0x64, 0x65}},
		{api.Packet{Proto: api.CHAP, Code: 2, ID: 255, One: []byte{1, 2, 3}, Two: []byte{0}},
			[]byte{0x02, 0xff, 0x00, 0x09, 0x03, 0x01, 0x02, 0x03, 0x00}},
		{api.Packet{Proto: api.CHAP, Code: 2, One: []byte{9}, Two: []byte{}}, []byte{0x02, 0x00, 0x00, 0x06, 0x01, 0x09}},
		{api.Packet{Proto: api.CHAP, Code: 3, ID: 1, Data: []byte("ok")}, []byte{0x03, 0x01, 0x00, 0x06, 0x6f, 0x6b}},
		{api.Packet{Proto: api.CHAP, Code: 3}, []byte{0x03, 0x00, 0x00, 0x04}},
		{api.Packet{Proto: api.CHAP, Code: 4, ID: 2, Data: []byte{0}}, []byte{0x04, 0x02, 0x00, 0x05, 0x00}},
		{api.Packet{Proto: api.CHAP, Code: 4, ID: 2}, []byte{0x04, 0x02, 0x00, 0x04}},
		{api.Packet{Proto: api.CHAP}, []byte{0x00, 0x00, 0x00, 0x04}},
		{api.Packet{Proto: api.CHAP, Code: 5, ID: 1, Data: []byte("bye")}, []byte{0x05, 0x01, 0x00, 0x07, 0x62, 0x79, 0x65}},
		{api.Packet{Proto: api.CHAP, Code: 255, ID: 254, Data: []byte{253}}, []byte{0xff, 0xfe, 0x00, 0x05, 0xfd}},
	} {
		checkPut(t, x.p, x.want)
	}
}

func TestPutOfEachCodeAndIdentifier(t *testing.T) {
	for _, code := range codes() {
		for id := range 256 {
			p := full(code)
			p.ID = byte(id)
			checkPut(t, p, written(p))
		}
	}
}

func TestPutOfManyPackets(t *testing.T) {
	for _, p := range packets() {
		checkPut(t, p, written(p))
	}
}

func TestPutOfEachLength(t *testing.T) {
	for n := range 256 {
		for m := range 256 {
			for _, code := range []byte{1, 2} {
				p := api.Packet{Proto: proto, Code: code, ID: 4, One: some(1, n), Two: some(2, m)}
				if n == 0 {
					checkPutWrong(t, p, api.ErrForm)
					continue
				}
				checkPut(t, p, written(p))
			}
		}
		for _, code := range plain() {
			p := api.Packet{Proto: proto, Code: code, ID: 4, Data: some(2, n)}
			checkPut(t, p, written(p))
		}
	}
}

func TestPutTellsValuesOfNoOctets(t *testing.T) {
	for _, code := range []byte{1, 2} {
		for _, one := range [][]byte{nil, {}, make([]byte, 0, 9)} {
			for _, two := range append(datas(), some(1, most), some(1, most+1), some(1, 1<<17)) {
				checkPutWrong(t, api.Packet{Proto: proto, Code: code, ID: 1, One: one, Two: two}, api.ErrForm)
			}
		}
	}
}

// tooMany are numbers of octets that no value may have; of some the lowest octet is
// that of a value that may be, or 0.
func tooMany() []int {
	return []int{256, 257, 258, 300, 511, 512, 513, 65530, 65531, 65532, 65536, 65537, 1 << 17}
}

func TestPutTellsValuesThatAreTooLong(t *testing.T) {
	for _, n := range tooMany() {
		long := some(7, n)
		for _, two := range [][]byte{nil, {1}, some(8, 255), some(9, 256), some(9, 1500), long, some(9, most)} {
			for _, code := range []byte{1, 2} {
				checkPutWrong(t, api.Packet{Proto: proto, Code: code, ID: 1, One: long, Two: two}, api.ErrLong)
			}
		}
	}
}

func TestPutOfLongNames(t *testing.T) {
	for _, code := range []byte{1, 2} {
		for size := 1; size < 256; size++ {
			p := longest(code, size, 0)
			checkPut(t, p, written(p))
			checkPutWrong(t, longest(code, size, 1), api.ErrLong)
		}
		for _, size := range []int{1, 2, 128, 255} {
			for _, n := range []int{-65275, -65274, -2, -1, 0} {
				p := longest(code, size, n)
				checkPut(t, p, written(p))
			}
			for _, n := range []int{1, 2, 4, 5, 6, 255, 256, 300, 65535, 65536, 1 << 20} {
				checkPutWrong(t, longest(code, size, n), api.ErrLong)
			}
		}
		checkPut(t, api.Packet{Proto: proto, Code: code, One: []byte{5}, Two: some(3, name)},
			slices.Concat([]byte{code, 0, 255, 255, 1, 5}, some(3, name)))
		checkPutWrong(t, api.Packet{Proto: proto, Code: code, One: []byte{5}, Two: some(3, name+1)}, api.ErrLong)
	}
}

func TestPutOfLongData(t *testing.T) {
	for _, code := range codes() {
		if valued(code) {
			continue
		}
		for _, n := range []int{-65531, -65275, -1, 0} {
			p := longest(code, 0, n)
			checkPut(t, p, written(p))
		}
		for _, n := range []int{1, 2, 4, 5, 6, 300} {
			checkPutWrong(t, longest(code, 0, n), api.ErrLong)
		}
	}
	checkPutWrong(t, longest(9, 0, 65536), api.ErrLong)
	checkPutWrong(t, longest(9, 0, 1<<20), api.ErrLong)
}

func TestPutTellsOtherProtocols(t *testing.T) {
	for n := range 65536 {
		if n == proto {
			continue
		}
		for _, code := range []byte{0, 1, 2, 3, 4, 5} {
			p := full(code)
			p.Proto = uint16(n)
			checkPutWrong(t, p, api.ErrKind)
		}
	}
}

// alien sets a field that a code may have, or may not.
type alien struct {
	may bool
	set func(p *api.Packet)
}

// aliens are what sets each field to what isn't nothing.
func aliens(code byte) []alien {
	x := valued(code)
	return []alien{
		{x, func(p *api.Packet) { p.One = []byte{0} }},
		{x, func(p *api.Packet) { p.One = []byte{1, 2} }},
		{x, func(p *api.Packet) { p.Two = []byte{0} }},
		{x, func(p *api.Packet) { p.Two = []byte{1, 2} }},
		{!x, func(p *api.Packet) { p.Data = []byte{0} }},
		{!x, func(p *api.Packet) { p.Data = []byte{7, 2} }},
		{false, func(p *api.Packet) { p.Opts = []api.Opt{{}} }},
		{false, func(p *api.Packet) { p.Opts = []api.Opt{{Type: 1, Data: []byte{5, 0xdc}}, {Type: 7}} }},
		{false, func(p *api.Packet) { p.Sub = 1 }},
		{false, func(p *api.Packet) { p.Sub = 0x8000 }},
		{false, func(p *api.Packet) { p.Magic = 1 }},
		{false, func(p *api.Packet) { p.Magic = 1 << 16 }},
		{false, func(p *api.Packet) { p.Magic = 1 << 31 }},
		{false, func(p *api.Packet) { p.Nums = []uint32{0} }},
		{false, func(p *api.Packet) { p.Nums = make([]uint32, 12) }},
	}
}

func TestPutTellsFieldsThatACodeLacks(t *testing.T) {
	for _, code := range codes() {
		for _, x := range aliens(code) {
			for _, p := range []api.Packet{full(code), least(code)} {
				x.set(&p)
				if x.may {
					checkPut(t, p, written(p))
					continue
				}
				checkPutWrong(t, p, api.ErrField)
			}
		}
	}
}

func TestPutTellsTwoFieldsThatACodeLacks(t *testing.T) {
	for _, code := range codes() {
		for i, x := range aliens(code) {
			for _, y := range aliens(code)[i+1:] {
				p := full(code)
				x.set(&p)
				y.set(&p)
				if x.may && y.may {
					checkPut(t, p, written(p))
					continue
				}
				checkPutWrong(t, p, api.ErrField)
			}
		}
	}
}

// K1: a list that is empty is nothing, as one that is nil.
func TestEmptyListsAreNothing(t *testing.T) {
	for _, code := range codes() {
		for _, p := range []api.Packet{full(code), least(code)} {
			want := written(p)
			p.Opts, p.Nums = make([]api.Opt, 0, 9), []uint32{}
			if len(p.Two) == 0 {
				p.Two = make([]byte, 0, 9)
			}
			if len(p.Data) == 0 {
				p.Data = []byte{}
			}
			if !valued(code) {
				p.One = []byte{}
			}
			checkPut(t, p, want)
		}
	}
}

// K2: another protocol ahead of a field, a field ahead of a value of no octets, and
// that ahead of what is too long.
func TestPutTellsTheFirstError(t *testing.T) {
	long := some(1, most+1)
	for _, code := range codes() {
		for _, p := range []api.Packet{
			{}, {One: long}, {Two: long}, {Data: long}, {One: long, Two: long}, {One: long, Data: long}, {Two: long, Data: long},
			{Two: []byte{1}}, {Data: []byte{1}}, {Two: []byte{1}, Data: []byte{1}}, {One: []byte{1}, Two: long},
			{One: []byte{1}, Two: long, Data: []byte{1}}, {One: some(1, 256), Data: []byte{1}},
		} {
			p.Code = code
			checkPutWrong(t, p, api.ErrKind)
			p.Proto = proto
			checkPutModel(t, p)
			for _, y := range aliens(code)[6:] {
				q := p
				y.set(&q)
				checkPutWrong(t, q, api.ErrField)
				q.Proto = api.PAP
				checkPutWrong(t, q, api.ErrKind)
			}
		}
	}
}

// checkPutModel holds what Put answers of a packet of the protocol against the
// chapter's words; no fields but One, Two and Data are set.
func checkPutModel(t *testing.T, p api.Packet) {
	t.Helper()
	if valued(p.Code) && len(p.Data) > 0 || !valued(p.Code) && len(p.One)+len(p.Two) > 0 {
		checkPutWrong(t, p, api.ErrField)
	} else if valued(p.Code) && len(p.One) == 0 {
		checkPutWrong(t, p, api.ErrForm)
	} else if valued(p.Code) && len(p.One) > 255 || len(written(p)) > 65535 {
		checkPutWrong(t, p, api.ErrLong)
	} else {
		checkPut(t, p, written(p))
	}
}

func TestPutOfManyTexts(t *testing.T) {
	texts := [][]byte{nil, {0}, {1, 2}, some(1, 255), some(1, 256), some(1, 65275), some(1, 65276), some(1, most-2), some(1, most-1),
		some(1, most), some(1, most+1)}
	for _, code := range []byte{0, 1, 2, 3, 4, 5, 255} {
		for _, one := range texts {
			for _, two := range texts {
				for _, data := range texts {
					checkPutModel(t, api.Packet{Proto: proto, Code: code, ID: 6, One: one, Two: two, Data: data})
				}
			}
		}
	}
}

// P18.2: Get.

func TestGetOfKnownOctets(t *testing.T) {
	for _, x := range []struct {
		b    []byte
		want api.Packet
	}{
		{[]byte{1, 0, 0, 7, 1, 7, 0x61}, api.Packet{Proto: api.CHAP, Code: 1, One: []byte{7}, Two: []byte("a")}},
		{[]byte{1, 5, 0, 6, 1, 0}, api.Packet{Proto: api.CHAP, Code: 1, ID: 5, One: []byte{0}}},
		{[]byte{1, 5, 0, 9, 1, 9, 1, 8, 0}, api.Packet{Proto: api.CHAP, Code: 1, ID: 5, One: []byte{9}, Two: []byte{1, 8, 0}}},
		{[]byte{1, 5, 0, 7, 1, 9, 0, 4, 4}, api.Packet{Proto: api.CHAP, Code: 1, ID: 5, One: []byte{9}, Two: []byte{0}}},
		{[]byte{2, 6, 0, 7, 2, 8, 9}, api.Packet{Proto: api.CHAP, Code: 2, ID: 6, One: []byte{8, 9}}},
		{[]byte{2, 6, 0, 8, 2, 8, 9, 10, 11}, api.Packet{Proto: api.CHAP, Code: 2, ID: 6, One: []byte{8, 9}, Two: []byte{10}}},
		{[]byte{3, 7, 0, 7, 2, 8, 9, 10}, api.Packet{Proto: api.CHAP, Code: 3, ID: 7, Data: []byte{2, 8, 9}}},
		{[]byte{3, 7, 0, 4}, api.Packet{Proto: api.CHAP, Code: 3, ID: 7}},
		{[]byte{4, 1, 0, 5, 0}, api.Packet{Proto: api.CHAP, Code: 4, ID: 1, Data: []byte{0}}},
		{[]byte{4, 1, 0, 5, 9}, api.Packet{Proto: api.CHAP, Code: 4, ID: 1, Data: []byte{9}}},
		{[]byte{0, 0, 0, 4}, api.Packet{Proto: api.CHAP}},
		{[]byte{255, 1, 0, 7, 1, 9, 0}, api.Packet{Proto: api.CHAP, Code: 255, ID: 1, Data: []byte{1, 9, 0}}},
	} {
		checkRead(t, x.b, x.want)
	}
}

func TestGetOfWrongOctets(t *testing.T) {
	for _, x := range []struct {
		b    []byte
		code api.Errno
	}{
		{nil, api.ErrShort},
		{[]byte{}, api.ErrShort},
		{[]byte{1}, api.ErrShort},
		{[]byte{1, 0, 0}, api.ErrShort},
		{[]byte{1, 0, 0, 0}, api.ErrForm},
		{[]byte{1, 0, 0, 3, 1, 9}, api.ErrForm},
		{[]byte{3, 0, 0, 3}, api.ErrForm},
		{[]byte{3, 0, 0, 5}, api.ErrShort},
		{[]byte{1, 0, 0, 7, 1, 9}, api.ErrShort},
		{[]byte{1, 0, 1, 6, 1, 9}, api.ErrShort},
		// No length.
		{[]byte{1, 0, 0, 4}, api.ErrShort},
		{[]byte{2, 0, 0, 4}, api.ErrShort},
		// A length of 0.
		{[]byte{1, 0, 0, 5, 0}, api.ErrForm},
		{[]byte{2, 0, 0, 5, 0}, api.ErrForm},
		{[]byte{1, 0, 0, 7, 0, 1, 9}, api.ErrForm},
		{[]byte{2, 0, 0, 7, 0, 1, 9}, api.ErrForm},
		// Fewer octets than it tells.
		{[]byte{1, 0, 0, 5, 1}, api.ErrShort},
		{[]byte{2, 0, 0, 5, 1}, api.ErrShort},
		{[]byte{1, 0, 0, 6, 2, 9}, api.ErrShort},
		{[]byte{2, 0, 0, 6, 255, 0}, api.ErrShort},
		// What is missing stands behind the packet.
		{[]byte{1, 0, 0, 4, 1, 9}, api.ErrShort},
		{[]byte{2, 0, 0, 4, 0, 0}, api.ErrShort},
		{[]byte{1, 0, 0, 5, 1, 9}, api.ErrShort},
		{[]byte{2, 0, 0, 6, 2, 9, 9, 9}, api.ErrShort},
	} {
		checkWrong(t, x.b, x.code)
	}
}

func TestGetOfEachCodeAndIdentifier(t *testing.T) {
	for _, code := range codes() {
		for id := range 256 {
			p := full(code)
			p.ID = byte(id)
			checkRead(t, written(p), p)
		}
	}
}

// Each length that is told, by each number of octets that are there.
func TestGetOfEachLength(t *testing.T) {
	for n := range 256 {
		for m := range 300 {
			octets := some(3, m)
			data := slices.Concat([]byte{byte(n)}, octets)
			for _, code := range []byte{1, 2} {
				b := control(code, 1, data)
				if n == 0 {
					checkWrong(t, b, api.ErrForm)
				} else if m < n {
					checkWrong(t, b, api.ErrShort)
				} else {
					checkRead(t, b, api.Packet{Proto: proto, Code: code, ID: 1, One: octets[:n], Two: octets[n:]})
				}
			}
			checkRead(t, control(3, 1, data), api.Packet{Proto: proto, Code: 3, ID: 1, Data: data})
		}
	}
}

func TestGetOfLongNames(t *testing.T) {
	for _, n := range []int{255, 256, 257, 1500, 65275, most - 3, most - 2} {
		for _, code := range []byte{1, 2} {
			two := some(5, n)
			b := control(code, 1, slices.Concat([]byte{1, 6}, two))
			checkRead(t, b, api.Packet{Proto: proto, Code: code, ID: 1, One: []byte{6}, Two: two})
			checkWrong(t, control(code, 1, slices.Concat([]byte{0, 6}, two)), api.ErrForm)
		}
	}
}

// K2: an error of the control packet ahead of one of its data.
func TestGetTellsTheFirstError(t *testing.T) {
	for _, code := range codes() {
		for _, data := range [][]byte{{}, {0}, {1}, {0, 0}, {1, 0}, {2, 0}, {0, 0, 0}, {1, 9, 1}, {9, 9, 9}} {
			b := control(code, 1, data)
			for length := range 4 {
				b[3] = byte(length)
				checkWrong(t, b, api.ErrForm)
			}
			b[3] = byte(len(b) + 1)
			checkWrong(t, b, api.ErrShort)
			checkWrong(t, b[:3], api.ErrShort)
		}
	}
}

func TestGetOfAllShortRows(t *testing.T) {
	for _, code := range []byte{0, 1, 2, 3, 4, 255} {
		rows([]byte{0, 1, 2, 3, 4, 6, 255}, 5, func(data []byte) {
			checkModel(t, control(code, 3, data))
			checkModel(t, slices.Concat([]byte{code}, data))
			checkModel(t, slices.Concat([]byte{code, 1, 0}, data))
		})
		rows([]byte{0, 1, 3}, 8, func(data []byte) { checkModel(t, control(code, 3, data)) })
	}
}

func TestGetOfManyRows(t *testing.T) {
	for _, code := range codes() {
		for n := range 60 {
			data := some(uint32(n), n)
			checkModel(t, control(code, byte(n), data))
			for i := range data {
				// Lengths that are small let a name be read, too.
				data[i] %= byte(n + 1)
			}
			b := control(code, byte(n), data)
			checkModel(t, b)
			b[3] -= byte(n % 5)
			checkModel(t, b)
		}
	}
}

func TestGetOfPacketsThatAreCutOff(t *testing.T) {
	for _, p := range packets() {
		b := written(p)
		for n := range min(len(b), 60) {
			checkWrong(t, b[:n], api.ErrShort)
		}
		checkWrong(t, b[:len(b)-1], api.ErrShort)
	}
}

// A packet whose length tells fewer octets than are there.
func TestGetOfPacketsThatEndEarly(t *testing.T) {
	for _, code := range []byte{1, 2} {
		b := written(full(code))
		for n := 4; n < len(b); n++ {
			b[3] = byte(n)
			if n < 9 {
				checkWrong(t, b, api.ErrShort)
				continue
			}
			p := full(code)
			p.Two = p.Two[:n-9]
			checkRead(t, b, p)
		}
	}
}

// P18.3: Answers.

// asked are packets that stand for all that Answers takes, those that can't be
// written among them, by their protocols, codes and identifiers.
func asked(code, id byte) []api.Packet {
	return []api.Packet{
		{Proto: proto, Code: code, ID: id},
		{Proto: proto, Code: code, ID: id, One: []byte{7}, Two: []byte("a")},
		{Proto: proto, Code: code, ID: id, One: some(1, 256), Data: []byte{9}},
		{Proto: proto, Code: code, ID: id, Data: some(1, most+1), Nums: []uint32{1}},
		{Proto: proto, Code: code, ID: id, Sub: 0x21, Magic: 1, Opts: []api.Opt{{Type: 1, Data: []byte{1}}}},
	}
}

// answers says in the chapter's words whether a packet answers another one.
func answers(p, ask api.Packet) bool {
	if p.Proto != proto || ask.Proto != proto || p.ID != ask.ID {
		return false
	}
	if p.Code == 2 && ask.Code == 1 {
		return true
	}
	return (p.Code == 3 || p.Code == 4) && ask.Code == 2
}

// checkAnswers holds what Answers answers against what is wanted.
func checkAnswers(t *testing.T, p, ask api.Packet, want bool) {
	t.Helper()
	if chap.Answers(p, ask) != want {
		t.Errorf("Answers(%v, %v) = %v", short(p), short(ask), !want)
	}
}

func TestAnswersOfKnownPackets(t *testing.T) {
	challenge := api.Packet{Proto: api.CHAP, Code: 1, ID: 5, One: []byte{7}, Two: []byte("a")}
	response := api.Packet{Proto: api.CHAP, Code: 2, ID: 5, One: []byte{1, 2, 3}, Two: []byte("b")}
	success := api.Packet{Proto: api.CHAP, Code: 3, ID: 5, Data: []byte("ok")}
	failure := api.Packet{Proto: api.CHAP, Code: 4, ID: 5}
	list := []api.Packet{challenge, response, success, failure}
	for i, p := range list {
		for j, ask := range list {
			checkAnswers(t, p, ask, i == 1 && j == 0 || i == 2 && j == 1 || i == 3 && j == 1)
			ask.ID++
			checkAnswers(t, p, ask, false)
		}
	}
	checkAnswers(t, api.Packet{}, api.Packet{}, false)
}

func TestAnswersOfEachTwoCodes(t *testing.T) {
	for _, code := range codes() {
		for _, other := range codes() {
			for _, ids := range [][2]byte{{0, 0}, {9, 9}, {255, 255}, {0, 1}, {1, 0}, {9, 255}} {
				p := api.Packet{Proto: proto, Code: code, ID: ids[0]}
				ask := api.Packet{Proto: proto, Code: other, ID: ids[1]}
				checkAnswers(t, p, ask, answers(p, ask))
			}
		}
	}
}

func TestAnswersOfEachTwoIdentifiers(t *testing.T) {
	for id := range 256 {
		for other := range 256 {
			for _, c := range [][2]byte{{2, 1}, {3, 2}, {4, 2}} {
				p := api.Packet{Proto: proto, Code: c[0], ID: byte(id)}
				ask := api.Packet{Proto: proto, Code: c[1], ID: byte(other)}
				checkAnswers(t, p, ask, id == other)
				checkAnswers(t, ask, p, false)
			}
		}
	}
}

func TestAnswersOfOtherProtocols(t *testing.T) {
	for n := range 65536 {
		for _, c := range [][2]byte{{2, 1}, {3, 2}, {4, 2}} {
			p, other := api.Packet{Proto: proto, Code: c[0]}, api.Packet{Proto: uint16(n), Code: c[0]}
			ask, asker := api.Packet{Proto: proto, Code: c[1]}, api.Packet{Proto: uint16(n), Code: c[1]}
			checkAnswers(t, p, asker, n == proto)
			checkAnswers(t, other, ask, n == proto)
			checkAnswers(t, other, asker, n == proto)
		}
	}
}

// What else the packets have, and whether it may be, counts for nothing.
func TestAnswersOfAnyPackets(t *testing.T) {
	for code := range byte(7) {
		for other := range byte(7) {
			for id := range byte(3) {
				for _, p := range asked(code, 1) {
					for _, ask := range asked(other, id) {
						checkAnswers(t, p, ask, answers(p, ask))
					}
				}
			}
		}
	}
}

func TestAnswersOfWhatIsRead(t *testing.T) {
	for code := range byte(6) {
		for other := range byte(6) {
			p, _ := chap.Get(written(api.Packet{Code: code, ID: 3, One: []byte{1}, Two: []byte{2}}))
			ask, _ := chap.Get(written(api.Packet{Code: other, ID: 3, One: []byte{4}, Data: []byte{5}}))
			checkAnswers(t, p, ask, answers(api.Packet{Proto: proto, Code: code}, api.Packet{Proto: proto, Code: other}))
		}
	}
}

// What is written, and read again.

func TestWhatIsWrittenIsRead(t *testing.T) {
	for _, p := range packets() {
		b, errno := chap.Put(p)
		if errno != api.OK {
			t.Errorf("Put(%v): %d", short(p), errno)
		}
		checkRead(t, b, p)
	}
}

func TestWhateverStandsBehindCountsForNothing(t *testing.T) {
	for i, p := range packets() {
		b := written(p)
		for _, tail := range [][]byte{{0}, {1}, {1, 9}, {255, 255, 255, 255}, some(4, 300)} {
			checkRead(t, slices.Concat(b, tail), p)
		}
		if i%20 == 0 {
			checkRead(t, slices.Concat(b, b), p)
			checkRead(t, slices.Concat(b, make([]byte, 70000)), p)
		}
	}
}

func TestWhatIsReadHasNoOtherWriting(t *testing.T) {
	for _, code := range codes() {
		rows([]byte{0, 1, 2, 3, 9}, 5, func(data []byte) {
			b := slices.Concat(control(code, 1, data), []byte{0, 0})
			p, errno := chap.Get(b)
			if errno == api.OK {
				checkPut(t, p, b[:len(b)-2])
			}
		})
	}
}

func TestUnlikePacketsDiffer(t *testing.T) {
	seen := map[string]api.Packet{}
	for _, p := range packets() {
		b, _ := chap.Put(p)
		if other, ok := seen[string(b)]; ok && !alike(p, other) {
			t.Errorf("%v and %v are both written as % x..", short(p), short(other), brief(b))
		}
		seen[string(b)] = p
	}
}

// K4 to K6: nothing is changed, kept, or read behind a list's length.

// withRoom gives octets in a memory that has more behind them.
func withRoom(b []byte) []byte {
	return slices.Concat(b, make([]byte, 20), bytes.Repeat([]byte{0xa5}, 40))[:len(b)]
}

// roomy gives the same packet in memory that has more behind each of its lists.
func roomy(p api.Packet) api.Packet {
	p.One, p.Two, p.Data = withRoom(p.One), withRoom(p.Two), withRoom(p.Data)
	p.Opts, p.Nums = make([]api.Opt, 0, 3), make([]uint32, 0, 12)
	return p
}

// whole gives a copy of all that the memory of a packet's texts and its Data holds,
// room and all.
func whole(p api.Packet) api.Packet {
	p.One, p.Two, p.Data = p.One[:cap(p.One)], p.Two[:cap(p.Two)], p.Data[:cap(p.Data)]
	return copied(p)
}

// spoil overwrites octets, and what lies behind them in their memory.
func spoil(b []byte) {
	b = b[:cap(b)]
	for i := range b {
		b[i] ^= 0xa5
	}
}

// spoilAll overwrites the texts and the Data of a packet, and all that their memory
// holds.
func spoilAll(p api.Packet) {
	spoil(p.One)
	spoil(p.Two)
	spoil(p.Data)
}

func TestNoRoomIsReadNorWritten(t *testing.T) {
	for _, p := range packets() {
		in, b := roomy(p), withRoom(written(p))
		before, octets := whole(in), bytes.Clone(b[:cap(b)])
		checkPut(t, in, written(p))
		checkRead(t, b, p)
		// What is missing lies in the room.
		checkWrong(t, b[:len(b)-1], api.ErrShort)
		checkAnswers(t, in, in, false)
		if !alike(whole(in), before) || !bytes.Equal(b[:cap(b)], octets) {
			t.Errorf("what was handed in of %v was changed", short(p))
		}
	}
	checkWrong(t, withRoom([]byte{1, 0, 0}), api.ErrShort)
	checkWrong(t, withRoom([]byte{1, 0, 0, 4}), api.ErrShort)
	checkWrong(t, withRoom([]byte{1, 0, 0, 6, 3, 9}), api.ErrShort)
	checkPutWrong(t, roomy(api.Packet{Proto: proto, Code: 1, Two: []byte{1}}), api.ErrForm)
}

func TestPutThatAnswersAnErrorChangesNothing(t *testing.T) {
	for _, p := range []api.Packet{
		{Proto: proto, Code: 1, One: some(1, 256), Two: some(2, 9)}, {Proto: proto, Code: 1, Two: some(2, 256)},
		{Proto: proto, Code: 2, One: []byte{1}, Two: []byte{2}, Data: []byte{3}}, {Proto: proto, Code: 9, One: []byte{1}, Data: []byte{2}},
		{Proto: api.PAP, Code: 1, One: []byte{1}, Two: []byte{2}}, longest(1, 3, 1), longest(9, 0, 1),
	} {
		in := roomy(p)
		before := whole(in)
		if _, errno := chap.Put(in); errno == api.OK || !alike(whole(in), before) {
			t.Errorf("Put(%v) was right, or changed it", short(p))
		}
	}
}

func TestAnswersAreNewMemory(t *testing.T) {
	for _, p := range packets() {
		in, octets := copied(p), slices.Concat(written(p), []byte{1, 2, 3})
		before := bytes.Clone(octets)
		b, _ := chap.Put(in)
		spoil(b)
		got, _ := chap.Get(octets)
		spoilAll(got)
		if !alike(in, p) || !bytes.Equal(octets, before) {
			t.Errorf("answers of %v share its memory", short(p))
		}
		checkPut(t, in, written(p))
		checkRead(t, octets, p)
	}
}

func TestNothingIsKept(t *testing.T) {
	for _, p := range packets() {
		in, octets := copied(p), written(p)
		b, _ := chap.Put(in)
		got, _ := chap.Get(octets)
		spoilAll(in)
		spoil(octets)
		if !bytes.Equal(b, written(p)) || !alike(got, p) {
			t.Errorf("answers of %v changed with what was handed in", short(p))
		}
	}
}

func TestTextsThatAreReadShareNoMemory(t *testing.T) {
	for _, p := range packets() {
		if !valued(p.Code) {
			continue
		}
		got, _ := chap.Get(written(p))
		spoil(got.One)
		if !bytes.Equal(got.Two, p.Two) {
			t.Errorf("of %v One shares memory with Two", short(p))
		}
		got, _ = chap.Get(written(p))
		spoil(got.Two)
		if !bytes.Equal(got.One, p.One) {
			t.Errorf("of %v Two shares memory with One", short(p))
		}
	}
}

// A value and a name may be the same octets, in the same memory.
func TestPutOfTextsThatShareMemory(t *testing.T) {
	text := some(6, 30)
	for n := 1; n < 30; n++ {
		p := api.Packet{Proto: proto, Code: 1, One: text[:n], Two: text}
		checkPut(t, p, written(p))
		p.One, p.Two = text[n:], text[:n]
		checkPut(t, p, written(p))
	}
	if !bytes.Equal(text, some(6, 30)) {
		t.Error("what was handed in was changed")
	}
}

func TestNoRoomIsHandedOut(t *testing.T) {
	secret := bytes.Repeat([]byte{0xa5}, 40)
	for _, code := range []byte{0, 1, 2, 3, 4, 255} {
		for n := 1; n < 60; n++ {
			text := slices.Concat(make([]byte, n), secret)[:n]
			p := api.Packet{Proto: proto, Code: code, Data: text}
			if valued(code) {
				p.One, p.Two, p.Data = text, text, nil
			}
			b, _ := chap.Put(p)
			got, _ := chap.Get(slices.Concat(written(p), secret)[:len(written(p))])
			padded, _ := chap.Get(slices.Concat(written(p), secret))
			for _, out := range [][]byte{b, got.One, got.Two, got.Data, padded.One, padded.Two, padded.Data} {
				if bytes.Contains(out[len(out):cap(out)], []byte{0xa5}) {
					t.Errorf("% x has room that was handed in", out)
				}
			}
		}
	}
}

// Errors leave nothing behind that a later call could tell.
func TestErrorsChangeNothing(t *testing.T) {
	for range 3 {
		checkPutWrong(t, api.Packet{Proto: proto, Code: 1, One: some(1, 256)}, api.ErrLong)
		checkPutWrong(t, api.Packet{Proto: proto, Code: 2, Two: []byte{1}}, api.ErrForm)
		checkPutWrong(t, api.Packet{Proto: proto, Code: 3, Two: []byte{1}}, api.ErrField)
		checkPutWrong(t, api.Packet{Proto: api.LCP, Code: 1}, api.ErrKind)
		checkWrong(t, []byte{1, 0, 0, 7, 3, 9, 1}, api.ErrShort)
		checkWrong(t, []byte{1, 0, 0, 7, 0, 0, 0}, api.ErrForm)
		for _, code := range codes() {
			p := full(code)
			checkPut(t, p, written(p))
			checkRead(t, written(p), p)
		}
		checkAnswers(t, full(2), api.Packet{Proto: proto, Code: 1, ID: 14}, true)
	}
}
