package ether_test

import (
	"bytes"
	"slices"
	"testing"

	"marline/api"
	"marline/body"
	"marline/ether"
	"marline/tags"
)

// most is how many octets a payload has at most.
const most = 1494

// codes are all codes, as the chapter has them.
func codes() []byte { return []byte{0x00, 0x07, 0x09, 0x19, 0x65, 0xa7} }

// found are the codes of discovery.
func found() []byte { return codes()[1:] }

// some gives n octets that look like chance, but are the same in every run.
func some(seed uint32, n int) []byte {
	out := make([]byte, n)
	for i := range out {
		seed = seed*1664525 + 1013904223
		out[i] = byte(seed >> 24)
	}
	return out
}

// two says how a number is written.
func two(n int) []byte { return []byte{byte(n / 256), byte(n % 256)} }

// may says in the chapter's words which of the six codes may have which session.
func may(code byte, session int) bool {
	switch code {
	case 0x00, 0xa7:
		return session > 0
	case 0x65:
		return true
	}
	return session == 0
}

// session gives a session that a code may have.
func session(code byte) uint16 {
	if may(code, 0x0102) {
		return 0x0102
	}
	return 0
}

// about are numbers of sessions: small ones, great ones, and those of one octet.
func about() []int {
	return []int{0, 1, 2, 127, 128, 255, 256, 257, 512, 0x7fff, 0x8000, 0xff00, 65534, 65535}
}

// row says how a frame is written that has this payload.
func row(code byte, session int, payload ...byte) []byte {
	return slices.Concat([]byte{0x11, code}, two(session), two(len(payload)), payload)
}

// tag gives a tag of a type that has n octets of data.
func tag(kind uint16, n int) tags.Tag { return tags.Tag{Type: kind, Data: some(uint32(kind), n)} }

// search gives a frame of discovery that has tags, and a session that it may have.
func search(code byte, l ...tags.Tag) ether.Frame {
	return ether.Frame{Code: code, Session: session(code), Tags: l}
}

// carry gives a session's frame that has a packet.
func carry(p api.Packet) ether.Frame { return ether.Frame{Session: 0x0102, Packet: p} }

// lists are lists of tags that can be written, and in a frame.
func lists() [][]tags.Tag {
	return [][]tags.Tag{
		nil, {}, {{Type: 0x0101}}, {{Type: 0x0101, Data: []byte{}}}, {{Type: 1}, {Type: 1}}, {{Type: 65535}},
		{{Type: 0x0103, Data: []byte{7, 8}}, {Type: 0x0103, Data: []byte{9}}}, {{Type: 0x0104, Data: make([]byte, 4)}},
		{{Type: 0x0101}, {Type: 0x0201, Data: []byte("none")}}, {{Type: 0x0203, Data: []byte{0, 0, 0, 9}}, {Type: 0x0110}},
		{{Type: 0x11, Data: []byte{0x11, 9, 0, 0, 0, 0}}}, {tag(0x0102, 255), tag(4, 256), tag(5, 257)}, {tag(1, most-4)},
		{tag(1, most-9), {Type: 2, Data: []byte{3}}}, slices.Repeat([]tags.Tag{{Type: 7}}, most/4), {tag(1, 1000), tag(2, 0), tag(3, 99)},
	}
}

// packets are packets of all protocols that can be written, and in a frame.
func packets() []api.Packet {
	return []api.Packet{
		{Proto: api.IP}, {Proto: api.IP, Data: []byte{1, 2}}, {Proto: api.IP, Data: some(1, most-2)}, {Proto: api.IP, Data: make([]byte, 64)},
		{Proto: 0x0001, Data: []byte{0}}, {Proto: 0xfeff, Data: some(2, 255)}, {Proto: 0x0057, Data: some(3, 300)}, {Proto: api.MP, Data: some(4, 9)},
		{Proto: api.LCP, Code: 5}, {Proto: api.LCP, Code: 1, ID: 7, Opts: []api.Opt{{Type: 1, Data: []byte{5, 0xdc}}, {Type: 7}, {Type: 8}}},
		{Proto: api.LCP, Code: 8, ID: 1, Sub: 0x8057, Data: some(5, 20)}, {Proto: api.LCP, Code: 9, ID: 2, Magic: 0xdeadbeef, Data: some(6, most-10)},
		{Proto: api.IPCP, Code: 1, ID: 1, Opts: []api.Opt{{Type: 3, Data: []byte{10, 0, 0, 1}}}}, {Proto: api.IPCP, Code: 9, Data: []byte{5}},
		{Proto: api.IPV6CP, Code: 2, ID: 255, Opts: []api.Opt{{Type: 1, Data: some(7, 8)}}}, {Proto: api.PAP, Code: 1, One: []byte("a"), Two: []byte("bc")},
		{Proto: api.PAP, Code: 2, ID: 3, One: some(8, 30)}, {Proto: api.CHAP, Code: 1, ID: 8, One: some(9, 16), Two: some(10, 5)},
		{Proto: api.CHAP, Code: 3, ID: 9, Data: []byte("welcome")}, {Proto: api.LQR, Nums: make([]uint32, 12)},
		{Proto: api.LQR, Nums: []uint32{1, 2, 3, 4, 5, 6, 7, 8, 9, 10, 11, 0xfffffffe}},
	}
}

// frames are frames that can be written.
func frames() []ether.Frame {
	var out []ether.Frame
	for i, p := range packets() {
		out = append(out, carry(p), ether.Frame{Session: uint16(i + 1), Packet: p})
	}
	for _, l := range lists() {
		for _, code := range found() {
			out = append(out, search(code, l...))
		}
		out = append(out, ether.Frame{Code: 0x65, Tags: l}, ether.Frame{Code: 0xa7, Session: 65535, Tags: l})
	}
	return out
}

// written says in the chapter's words how a frame that can be written is.
func written(t *testing.T, f ether.Frame) []byte {
	t.Helper()
	payload, errno := tags.Put(f.Tags)
	if f.Code == 0 {
		payload, errno = body.Put(f.Packet)
		payload = slices.Concat(two(int(f.Packet.Proto)), payload)
	}
	if errno != api.OK || len(payload) > most || !may(f.Code, int(f.Session)) {
		t.Fatalf("%v can't be written: %d", brief(f), errno)
	}
	return row(f.Code, int(f.Session), payload...)
}

// read says in the chapter's words what Get answers.
func read(b []byte) (ether.Frame, int, api.Errno) {
	wrong := func(errno api.Errno) (ether.Frame, int, api.Errno) { return ether.Frame{}, 0, errno }
	if len(b) <= 5 {
		return wrong(api.ErrShort)
	}
	f := ether.Frame{Code: b[1], Session: uint16(b[2])*256 + uint16(b[3])}
	told, there := int(b[4])*256+int(b[5]), b[6:]
	switch {
	case b[0] != 17:
		return wrong(api.ErrForm)
	case !slices.Contains(codes(), f.Code):
		return wrong(api.ErrKind)
	case !may(f.Code, int(f.Session)):
		return wrong(api.ErrRange)
	case told >= 1495:
		return wrong(api.ErrLong)
	case told > len(there), f.Code == 0 && told < 2:
		return wrong(api.ErrShort)
	}
	var errno api.Errno
	if f.Code == 0 {
		f.Packet, errno = body.Get(uint16(there[0])*256+uint16(there[1]), there[2:told])
	} else {
		f.Tags, _, errno = tags.Get(there[:told])
	}
	if errno != api.OK {
		return wrong(errno)
	}
	return f, told + 6, api.OK
}

// alike tells whether two frames have the same fields.
func alike(a, b ether.Frame) bool {
	same := slices.EqualFunc(a.Tags, b.Tags, func(a, b tags.Tag) bool { return a.Type == b.Type && bytes.Equal(a.Data, b.Data) })
	return same && a.Code == b.Code && a.Session == b.Session && body.Same(a.Packet, b.Packet)
}

// few gives at most some 24 octets, so that what fails can be read.
func few(b []byte) []byte { return b[:min(len(b), 24)] }

// brief gives a frame of which what fails can be read.
func brief(f ether.Frame) ether.Frame {
	f.Tags = slices.Clone(f.Tags[:min(len(f.Tags), 4)])
	for i, x := range f.Tags {
		f.Tags[i].Data = few(x.Data)
	}
	f.Packet.Opts = f.Packet.Opts[:min(len(f.Packet.Opts), 4)]
	f.Packet.One, f.Packet.Two, f.Packet.Data = few(f.Packet.One), few(f.Packet.Two), few(f.Packet.Data)
	return f
}

// copied gives the same frame in memory of its own.
func copied(f ether.Frame) ether.Frame {
	f.Tags, f.Packet.Opts = slices.Clone(f.Tags), slices.Clone(f.Packet.Opts)
	for i, x := range f.Tags {
		f.Tags[i].Data = bytes.Clone(x.Data)
	}
	for i, o := range f.Packet.Opts {
		f.Packet.Opts[i].Data = bytes.Clone(o.Data)
	}
	p := &f.Packet
	p.One, p.Two, p.Data, p.Nums = bytes.Clone(p.One), bytes.Clone(p.Two), bytes.Clone(p.Data), slices.Clone(p.Nums)
	return f
}

// checkPut holds what Put answers against what is wanted.
func checkPut(t *testing.T, f ether.Frame, want []byte) {
	t.Helper()
	if b, errno := ether.Put(f); errno != api.OK || !bytes.Equal(b, want) {
		t.Errorf("Put(%v) = %d octets, % x.., %d, want %d, % x..", brief(f), len(b), few(b), errno, len(want), few(want))
	}
}

// checkPutWrong wants that Put answers an error, and (K3) no octets.
func checkPutWrong(t *testing.T, f ether.Frame, code api.Errno) {
	t.Helper()
	if b, errno := ether.Put(f); errno != code || len(b) != 0 {
		t.Errorf("Put(%v) = %d octets, % x.., %d, want none, %d", brief(f), len(b), few(b), errno, code)
	}
}

// checkGet holds what Get answers against what is wanted.
func checkGet(t *testing.T, b []byte, want ether.Frame, size int, code api.Errno) {
	t.Helper()
	if f, n, errno := ether.Get(b); errno != code || n != size || !alike(f, want) {
		t.Errorf("Get(%d octets, % x..) = %v, %d, %d, want %v, %d, %d", len(b), few(b), brief(f), n, errno, brief(want), size, code)
	}
}

// checkRead wants that Get reads octets as the chapter's words say.
func checkRead(t *testing.T, b []byte) {
	t.Helper()
	want, size, code := read(b)
	checkGet(t, b, want, size, code)
}

// checkWrong wants that Get answers an error, and (K3) nothing else.
func checkWrong(t *testing.T, b []byte, code api.Errno) {
	t.Helper()
	checkGet(t, b, ether.Frame{}, 0, code)
}

// checkAnswers holds what Answers answers against what is wanted.
func checkAnswers(t *testing.T, f, ask ether.Frame, want bool) {
	t.Helper()
	if ether.Answers(f, ask) != want {
		t.Errorf("Answers(%v, %v) isn't %t", brief(f), brief(ask), want)
	}
}

// P22.1: Put.

func TestCodes(t *testing.T) {
	is := []byte{ether.Session, ether.Offer, ether.Init, ether.Request, ether.Confirm, ether.Quit}
	if !bytes.Equal(is, codes()) {
		t.Errorf("the codes are % x", is)
	}
}

func TestPutOfKnownFrames(t *testing.T) {
	for _, x := range []struct {
		f    ether.Frame
		want []byte
	}{
		{ether.Frame{Code: ether.Init, Tags: []tags.Tag{{Type: 0x0101}}}, []byte{0x11, 9, 0, 0, 0, 4, 1, 1, 0, 0}},
		{ether.Frame{Code: ether.Init}, []byte{0x11, 9, 0, 0, 0, 0}},
		{ether.Frame{Code: ether.Offer, Tags: []tags.Tag{{Type: 0x0102, Data: []byte("ac")}, {Type: 0x0101}}},
			[]byte{0x11, 7, 0, 0, 0, 10, 1, 2, 0, 2, 'a', 'c', 1, 1, 0, 0}},
		{ether.Frame{Code: ether.Request, Tags: []tags.Tag{{Type: 1, Data: []byte{0}}}}, []byte{0x11, 0x19, 0, 0, 0, 5, 0, 1, 0, 1, 0}},
		{ether.Frame{Code: ether.Confirm, Session: 0x1234}, []byte{0x11, 0x65, 0x12, 0x34, 0, 0}},
		{ether.Frame{Code: ether.Confirm, Tags: []tags.Tag{{Type: 0x0202}}}, []byte{0x11, 0x65, 0, 0, 0, 4, 2, 2, 0, 0}},
		{ether.Frame{Code: ether.Quit, Session: 0x0100}, []byte{0x11, 0xa7, 1, 0, 0, 0}},
		{carry(api.Packet{Proto: api.IP, Data: []byte{0x45, 0}}), []byte{0x11, 0, 1, 2, 0, 4, 0, 0x21, 0x45, 0}},
		{carry(api.Packet{Proto: api.IP}), []byte{0x11, 0, 1, 2, 0, 2, 0, 0x21}},
		{carry(api.Packet{Proto: api.LCP, Code: 9, Magic: 1}), []byte{0x11, 0, 1, 2, 0, 10, 0xc0, 0x21, 9, 0, 0, 8, 0, 0, 0, 1}},
	} {
		checkPut(t, x.f, x.want)
		checkGet(t, x.want, x.f, len(x.want), api.OK)
	}
}

func TestPutOfManyFrames(t *testing.T) {
	for _, f := range frames() {
		checkPut(t, f, written(t, f))
	}
}

// Each of the octets that a code is, with sessions of many kinds, and of each
// session of the six codes.
func TestPutOfEachCodeAndSession(t *testing.T) {
	for n := range 256 {
		code := byte(n)
		for _, s := range about() {
			if f := (ether.Frame{Code: code, Session: uint16(s)}); !slices.Contains(codes(), code) {
				checkPutWrong(t, f, api.ErrKind)
			}
		}
	}
	for _, code := range codes() {
		f := ether.Frame{Code: code, Tags: []tags.Tag{{Type: 0x0101}}}
		if code == 0 {
			f.Tags, f.Packet = nil, api.Packet{Proto: api.IP, Data: []byte{5, 6}}
		}
		for s := range 65536 {
			if f.Session = uint16(s); may(code, s) {
				checkPut(t, f, written(t, f))
			} else {
				checkPutWrong(t, f, api.ErrRange)
			}
		}
	}
}

// Each number of 16 bits, by a packet that has Data alone.
func TestPutOfEachProtocol(t *testing.T) {
	for n := range 65536 {
		f := carry(api.Packet{Proto: uint16(n), Data: []byte{1, 2, 3}})
		want, errno := body.Put(f.Packet)
		if errno == api.OK {
			checkPut(t, f, slices.Concat([]byte{0x11, 0, 1, 2}, two(len(want)+2), two(n), want))
		} else {
			checkPutWrong(t, f, errno)
		}
	}
}

// Each length about the greatest one, and each shorter one.
func TestPutOfEachLength(t *testing.T) {
	for n := range most + 300 {
		data := some(uint32(n), n)
		list := []ether.Frame{carry(api.Packet{Proto: api.IP, Data: data})}
		sizes := []int{n + 2}
		for _, code := range found() {
			list = append(list, search(code, tags.Tag{Type: 7, Data: data}), search(code, tags.Tag{Type: 7}, tags.Tag{Type: 8, Data: data}))
			sizes = append(sizes, n+4, n+8)
		}
		for i, f := range list {
			if sizes[i] > most {
				checkPutWrong(t, f, api.ErrLong)
				continue
			}
			want := written(t, f)
			checkPut(t, f, want)
			if len(want) != sizes[i]+6 || int(want[4])*256+int(want[5]) != sizes[i] {
				t.Errorf("%v has %d octets, want %d", brief(f), len(want), sizes[i]+6)
			}
		}
	}
	for _, n := range []int{65530, 65534, 65535, 65536, 65540, 65536 + most, 1 << 20} {
		checkPutWrong(t, carry(api.Packet{Proto: api.IP, Data: make([]byte, n)}), api.ErrLong)
		checkPutWrong(t, search(7, tag(1, 65000), tag(2, n-65000)), api.ErrLong)
	}
	checkPutWrong(t, search(9, slices.Repeat([]tags.Tag{{Type: 1}}, most/4+1)...), api.ErrLong)
	checkPutWrong(t, search(9, slices.Repeat([]tags.Tag{{Type: 1}}, 16384)...), api.ErrLong)
}

func TestPutTellsTagsOfASession(t *testing.T) {
	for _, p := range packets() {
		f := carry(p)
		f.Tags = []tags.Tag{}
		checkPut(t, f, written(t, carry(p)))
		for _, l := range append(lists()[2:], []tags.Tag{{}}, []tags.Tag{tag(1, 65536)}) {
			f.Tags = l
			checkPutWrong(t, f, api.ErrField)
		}
	}
}

// aliens are packets that aren't the zero one, each by another field.
func aliens() []api.Packet {
	out := []api.Packet{
		{Opts: []api.Opt{{}}}, {Opts: []api.Opt{{Type: 1}}}, {One: []byte{0}}, {Two: []byte{0}}, {Data: []byte{0}},
		{Nums: []uint32{0}}, {Nums: make([]uint32, 12)}, {Data: make([]byte, 2000)},
	}
	for i := range 8 {
		out = append(out, api.Packet{Code: 1 << i}, api.Packet{ID: 1 << i})
	}
	for i := range 16 {
		out = append(out, api.Packet{Proto: 1 << i}, api.Packet{Sub: 1 << i})
	}
	for i := range 32 {
		out = append(out, api.Packet{Magic: 1 << i})
	}
	return append(out, packets()...)
}

func TestPutTellsAPacketOfDiscovery(t *testing.T) {
	empty := api.Packet{Opts: []api.Opt{}, One: []byte{}, Two: make([]byte, 0, 9), Data: []byte{}, Nums: []uint32{}}
	for _, code := range found() {
		for _, l := range lists() {
			f := search(code, l...)
			want := written(t, f)
			f.Packet = empty
			checkPut(t, f, want)
			for _, p := range aliens() {
				f.Packet = p
				checkPutWrong(t, f, api.ErrField)
			}
		}
	}
}

func TestPutTellsPacketsErrors(t *testing.T) {
	for _, x := range []struct {
		p    api.Packet
		code api.Errno
	}{
		{api.Packet{}, api.ErrHead},
		{api.Packet{Proto: 0xff}, api.ErrHead},
		{api.Packet{Proto: 0x22, Data: make([]byte, 9000)}, api.ErrHead},
		{api.Packet{Proto: api.IP, Code: 1}, api.ErrField},
		{api.Packet{Proto: api.IP, ID: 1, Data: make([]byte, 1493)}, api.ErrField},
		{api.Packet{Proto: api.LCP, Code: 1, Data: []byte{1}}, api.ErrField},
		{api.Packet{Proto: api.LCP, Code: 1, Opts: []api.Opt{{Type: 1}}}, api.ErrForm},
		{api.Packet{Proto: api.LCP, Code: 1, Opts: slices.Repeat([]api.Opt{{Type: 1}}, 1000)}, api.ErrForm},
		{api.Packet{Proto: api.IPCP, Code: 1, One: []byte{1}}, api.ErrField},
		{api.Packet{Proto: api.PAP, Code: 1, One: make([]byte, 256)}, api.ErrLong},
		{api.Packet{Proto: api.CHAP, Code: 1}, api.ErrForm},
		{api.Packet{Proto: api.CHAP, Code: 1, Two: make([]byte, 5000)}, api.ErrForm},
		{api.Packet{Proto: api.LQR}, api.ErrRange},
		{api.Packet{Proto: api.LQR, Nums: make([]uint32, 9000)}, api.ErrRange},
	} {
		checkPutWrong(t, carry(x.p), x.code)
	}
	for _, p := range aliens() {
		if _, errno := body.Put(p); errno != api.OK {
			checkPutWrong(t, carry(p), errno)
		}
	}
}

func TestPutTellsTagsErrors(t *testing.T) {
	none, long, much := tags.Tag{}, tag(1, 65536), tag(2, 1495)
	for _, code := range found() {
		for _, x := range []struct {
			l    []tags.Tag
			code api.Errno
		}{
			{[]tags.Tag{none}, api.ErrKind},
			{[]tags.Tag{{Data: []byte{1}}}, api.ErrKind},
			{[]tags.Tag{tag(0, 65536)}, api.ErrKind},
			{[]tags.Tag{{Type: 1}, none}, api.ErrKind},
			{[]tags.Tag{much, none}, api.ErrKind},
			{[]tags.Tag{long, none}, api.ErrLong},
			{[]tags.Tag{none, long}, api.ErrKind},
			{[]tags.Tag{much}, api.ErrLong},
			{[]tags.Tag{long}, api.ErrLong},
		} {
			checkPutWrong(t, search(code, x.l...), x.code)
		}
	}
}

// K2: of several errors the first one that the chapter names.
func TestPutTellsTheFirstError(t *testing.T) {
	junk := api.Packet{Code: 1, Data: make([]byte, 2000)}
	for _, l := range [][]tags.Tag{nil, {{}}, {tag(1, 65536)}, {tag(1, 1495)}, {{Type: 1}}} {
		for _, p := range []api.Packet{{}, junk, {Proto: api.IP}, {Proto: api.IP, Data: make([]byte, 2000)}} {
			for _, s := range about() {
				for _, code := range []byte{1, 2, 8, 0x11, 0x18, 0x64, 0xa5, 0xff} {
					checkPutWrong(t, ether.Frame{Code: code, Session: uint16(s), Tags: l, Packet: p}, api.ErrKind)
				}
				for _, code := range codes() {
					if f := (ether.Frame{Code: code, Session: uint16(s), Tags: l, Packet: p}); !may(code, s) {
						checkPutWrong(t, f, api.ErrRange)
					} else if code == 0 && len(l) > 0 || code != 0 && !body.Same(p, api.Packet{}) {
						checkPutWrong(t, f, api.ErrField)
					}
				}
			}
		}
	}
}

// P22.2: Get.

func TestGetOfWrongOctets(t *testing.T) {
	for _, x := range []struct {
		b    []byte
		code api.Errno
	}{
		{nil, api.ErrShort},
		{[]byte{}, api.ErrShort},
		{[]byte{0x11}, api.ErrShort},
		{[]byte{0x12, 9, 0, 0, 0}, api.ErrShort},
		{[]byte{0x11, 9, 0, 0, 0}, api.ErrShort},
		{[]byte{0x12, 9, 0, 0, 0, 0}, api.ErrForm},
		{[]byte{0x10, 8, 0, 0, 0, 0}, api.ErrForm},
		{[]byte{0x11, 8, 0, 0, 0, 0}, api.ErrKind},
		{[]byte{0x11, 8, 0, 1, 9, 9}, api.ErrKind},
		{[]byte{0x11, 9, 0, 1, 0, 0}, api.ErrRange},
		{[]byte{0x11, 9, 1, 0, 9, 9}, api.ErrRange},
		{[]byte{0x11, 0, 0, 0, 0, 2, 0, 0x21}, api.ErrRange},
		{[]byte{0x11, 0xa7, 0, 0, 0, 0}, api.ErrRange},
		{[]byte{0x11, 9, 0, 0, 5, 0xd7}, api.ErrLong},
		{[]byte{0x11, 9, 0, 0, 0xff, 0xff}, api.ErrLong},
		{[]byte{0x11, 9, 0, 0, 5, 0xd6}, api.ErrShort},
		{[]byte{0x11, 9, 0, 0, 0, 1}, api.ErrShort},
		{[]byte{0x11, 9, 0, 0, 0, 1, 0}, api.ErrShort},
		{[]byte{0x11, 9, 0, 0, 0, 5, 0, 0, 0, 1, 0}, api.ErrForm},
		{[]byte{0x11, 0, 0, 1, 0, 0}, api.ErrShort},
		{[]byte{0x11, 0, 0, 1, 0, 0, 0, 0x21, 1}, api.ErrShort},
		{[]byte{0x11, 0, 0, 1, 0, 1, 0}, api.ErrShort},
		{[]byte{0x11, 0, 0, 1, 0, 1, 0x21, 1}, api.ErrShort},
		{[]byte{0x11, 0, 0, 1, 0, 2, 0, 0x22}, api.ErrHead},
		{[]byte{0x11, 0, 0, 1, 0, 2, 0, 0xff}, api.ErrHead},
		{[]byte{0x11, 0, 0, 1, 0, 2, 0xc0, 0x21}, api.ErrShort},
		{[]byte{0x11, 0, 0, 1, 0, 6, 0xc0, 0x21, 1, 0, 0, 3}, api.ErrForm},
	} {
		checkWrong(t, x.b, x.code)
		checkRead(t, x.b)
	}
}

// Each first octet, each code, and many sessions and lengths.
func TestGetOfEachLead(t *testing.T) {
	payload := slices.Concat([]byte{0, 0x21, 0, 0}, some(3, most))
	for n := range 256 {
		c := byte(n)
		for _, s := range about() {
			for _, size := range []int{0, 1, 2, 4, 37, most, most + 1, 65535} {
				for _, there := range []int{0, 1, 4, 37, most, most + 4} {
					b := slices.Concat([]byte{0x11, c}, two(s), two(size), payload[:there])
					checkRead(t, b)
					if b[0], b[1] = c, 0x65; c != 0x11 {
						checkWrong(t, b, api.ErrForm)
					}
				}
			}
		}
	}
}

func TestGetOfEachSession(t *testing.T) {
	for s := range 65536 {
		for _, code := range codes() {
			b := slices.Concat([]byte{0x11, code}, two(s), []byte{0, 4, 0, 0x21, 0, 0})
			f := ether.Frame{Code: code, Session: uint16(s), Tags: []tags.Tag{{Type: 0x21}}}
			if code == 0 {
				f.Tags, f.Packet = nil, api.Packet{Proto: api.IP, Data: []byte{0, 0}}
			}
			if may(code, s) {
				checkGet(t, b, f, 10, api.OK)
			} else {
				checkWrong(t, b, api.ErrRange)
			}
		}
	}
}

func TestGetOfEachProtocol(t *testing.T) {
	behind := slices.Concat([]byte{77, 0, 0, 5, 1}, make([]byte, 50))
	for n := range 65536 {
		checkRead(t, row(0, 1, slices.Concat(two(n), behind)...))
		checkRead(t, row(0, 1, two(n)...))
	}
}

// Each length that is told, with as many octets, with fewer, and with more.
func TestGetOfEachLength(t *testing.T) {
	for n := range most + 300 {
		for _, code := range codes() {
			data := some(uint32(n), n)
			f, b := search(code, tags.Tag{Type: 0x21, Data: data}), slices.Concat([]byte{0, 0x21}, two(n), data)
			if code == 0 {
				f, b = carry(api.Packet{Proto: api.IP, Data: data}), slices.Concat([]byte{0, 0x21}, data)
			}
			size := len(b) + 6
			b = row(code, int(session(code)), b...)
			if size > most+6 {
				checkWrong(t, b, api.ErrLong)
				checkWrong(t, b[:6], api.ErrLong)
				checkWrong(t, b[:5], api.ErrShort)
				continue
			}
			checkGet(t, b, f, size, api.OK)
			checkGet(t, append(b, 0), f, size, api.OK)
			checkGet(t, append(b, b...), f, size, api.OK)
			checkWrong(t, b[:size-1], api.ErrShort)
			checkWrong(t, b[:6], api.ErrShort)
		}
	}
}

func TestGetOfFramesThatAreCutOff(t *testing.T) {
	for _, f := range frames() {
		b := written(t, f)
		for n := range len(b) {
			checkWrong(t, b[:n], api.ErrShort)
		}
		checkGet(t, b, f, len(b), api.OK)
	}
}

// A frame whose length tells fewer octets than its tags, or its packet, have.
func TestGetOfPayloadsThatAreCutOff(t *testing.T) {
	for _, f := range frames() {
		b := written(t, f)
		for n := range len(b) - 6 {
			cut := slices.Concat(b[:4], two(n), b[6:])
			checkRead(t, cut)
			checkRead(t, cut[:6+n])
		}
	}
}

func TestGetOfAllShortRows(t *testing.T) {
	octets := []byte{0, 1, 2, 4, 0x21, 0xc0}
	var grow func(b []byte, left int)
	grow = func(b []byte, left int) {
		for _, code := range []byte{0, 0x09, 0x65} {
			checkRead(t, row(code, int(session(code)), b...))
			checkRead(t, slices.Concat([]byte{0x11, code, 0, 0}, b))
			checkRead(t, slices.Concat([]byte{0x11, code, 1, 2}, b))
		}
		for i := range min(left, 1) * len(octets) {
			grow(append(slices.Clip(b), octets[i]), left-1)
		}
	}
	grow(nil, 6)
	for n := range 1 << 16 {
		checkRead(t, two(n))
	}
}

func TestGetOfManyRows(t *testing.T) {
	for n := range 6000 {
		b := some(uint32(n), n%200)
		for i := range b {
			// Octets that are mostly small let many fields be read ahead of a wrong one.
			b[i] %= byte(n%9 + 2)
		}
		code := codes()[n%6]
		checkRead(t, b)
		checkRead(t, row(code, int(session(code)), b...))
		checkRead(t, row(code, n%3, b...))
		checkRead(t, row(0, 1, slices.Concat([]byte{0xc0, 0x21}, b)...))
	}
}

// P7: what pads a frame counts for nothing.
func TestWhatStandsBehindAFrameCountsForNothing(t *testing.T) {
	for _, f := range frames() {
		b := written(t, f)
		for _, tail := range [][]byte{{0}, {0x11}, make([]byte, 46), some(1, 1500), bytes.Repeat([]byte{255}, 70000), b} {
			checkGet(t, slices.Concat(b, tail), f, len(b), api.OK)
		}
	}
}

// What ends tags is there: behind it a payload may have anything.
func TestWhatStandsBehindTagsCountsForNothing(t *testing.T) {
	for _, l := range lists() {
		for _, code := range found() {
			f := search(code, l...)
			payload := written(t, f)[6:]
			for _, tail := range [][]byte{{}, {0}, {1, 1, 0}, {0, 0, 0, 1}, {1, 1, 0, 0}, {1, 1, 255, 255}, some(2, 60)} {
				b := row(code, int(f.Session), slices.Concat(payload, make([]byte, 4), tail)...)
				if len(b) > most+6 {
					checkWrong(t, b, api.ErrLong)
					continue
				}
				checkGet(t, b, f, len(b), api.OK)
				checkGet(t, append(b, 9), f, len(b), api.OK)
			}
			if len(payload) < most {
				checkWrong(t, row(code, int(f.Session), append(payload, 0)...), api.ErrShort)
			}
		}
	}
}

// A packet that tells its length ends there; one of another protocol goes on.
func TestWhatStandsBehindAPacketCountsForNothing(t *testing.T) {
	for _, p := range packets() {
		payload := written(t, carry(p))[6:]
		for _, tail := range [][]byte{{0}, {1, 2}, make([]byte, 40), some(3, 60)} {
			b, want := row(0, 0x0102, slices.Concat(payload, tail)...), p
			if len(b) > most+6 {
				checkWrong(t, b, api.ErrLong)
				continue
			}
			if p.Proto < 0x8000 || p.Proto == 0xfeff {
				want.Data = slices.Concat(p.Data, tail)
			}
			checkGet(t, b, carry(want), len(b), api.OK)
		}
	}
}

// What is written, and read again.

func TestWhatIsWrittenIsRead(t *testing.T) {
	for _, f := range frames() {
		b, errno := ether.Put(f)
		if errno != api.OK {
			t.Errorf("Put(%v): %d", brief(f), errno)
		}
		checkGet(t, b, f, len(b), api.OK)
	}
}

func TestWhatIsReadIsWritten(t *testing.T) {
	for n := range 9000 {
		payload := some(uint32(n), n%60)
		for i := range payload {
			payload[i] %= 3
		}
		code := codes()[n%6]
		if code == 0 {
			payload = slices.Concat([]byte{byte(n/6%2) * 0xc0, 0x21}, payload)
		}
		f, size, errno := ether.Get(row(code, int(session(code)), payload...))
		if errno != api.OK {
			continue
		}
		b, errno := ether.Put(f)
		if errno != api.OK || len(b) > size {
			t.Errorf("what was read of % x is written as % x, %d", payload, b, errno)
		}
		checkGet(t, b, f, len(b), api.OK)
	}
}

// P22.3: Answers.

func TestAnswersOfEachTwoCodes(t *testing.T) {
	for a := range 256 {
		for b := range 256 {
			want := a == 0x07 && b == 0x09 || a == 0x65 && b == 0x19
			checkAnswers(t, ether.Frame{Code: byte(a)}, ether.Frame{Code: byte(b)}, want)
			checkAnswers(t, search(byte(a), tag(0x0103, 3)), search(byte(b), tag(0x0103, 3)), want)
			checkAnswers(t, search(byte(a), tag(0x0103, 3)), search(byte(b), tag(0x0103, 2)), false)
		}
	}
}

// uniques are lists of tags, by the data that the first unique one of each has, none
// if there is none.
func uniques() ([][]tags.Tag, []string) {
	unique := func(data string) tags.Tag { return tags.Tag{Type: 0x0103, Data: []byte(data)} }
	other := func(data string) tags.Tag { return tags.Tag{Type: 0x0104, Data: []byte(data)} }
	lists := [][]tags.Tag{
		nil, {}, {other("a")}, {{Type: 0x0301, Data: []byte("a")}, {Type: 0x0003}, {Type: 0x0100}}, {{Data: []byte("a")}},
		{unique("")}, {{Type: 0x0103}}, {unique(""), unique("a")}, {other("a"), unique("")},
		{unique("a")}, {other("b"), unique("a"), unique("b")}, {{}, unique("a")}, {unique("a"), tag(1, 70000)}, {unique("a"), unique("")},
		{unique("b")}, {unique("b"), unique("a")}, {other("a"), unique("b")}, {unique("ab")}, {unique("aa")}, {unique("\x00")}, {unique("a\x00")},
		{unique(string(some(4, 70000)))}, {unique(string(some(4, 69999)))}, {unique(string(some(5, 70000)))},
	}
	datas := []string{
		"none", "none", "none", "none", "none", "", "", "", "", "a", "a", "a", "a", "a",
		"b", "b", "b", "ab", "aa", "\x00", "a\x00", string(some(4, 70000)), string(some(4, 69999)), string(some(5, 70000)),
	}
	return lists, datas
}

func TestAnswersOfUniqueTags(t *testing.T) {
	lists, datas := uniques()
	for i, l := range lists {
		for j, ask := range lists {
			want := datas[j] == "none" || datas[i] == datas[j]
			checkAnswers(t, search(0x07, l...), search(0x09, ask...), want)
			checkAnswers(t, search(0x65, l...), search(0x19, ask...), want)
			checkAnswers(t, search(0x07, l...), search(0x19, ask...), false)
			checkAnswers(t, search(0x65, l...), search(0x09, ask...), false)
			checkAnswers(t, search(0x09, l...), search(0x07, ask...), false)
			checkAnswers(t, search(0x19, l...), search(0x65, ask...), false)
			checkAnswers(t, search(0xa7, l...), search(0x65, ask...), false)
		}
	}
}

// Answers is asked of any frames: these can't be written.
func TestAnswersGoesByCodesAndTagsAlone(t *testing.T) {
	one, more := []tags.Tag{tag(0x0103, 3)}, []tags.Tag{tag(0x0103, 3), {Type: 0x0101}, {}}
	for _, p := range aliens() {
		for _, s := range about() {
			f := ether.Frame{Code: 0x07, Session: uint16(s), Tags: more, Packet: p}
			ask := ether.Frame{Code: 0x09, Session: uint16(65535 - s), Tags: one}
			checkAnswers(t, f, ask, true)
			ask.Packet = p
			checkAnswers(t, f, ask, true)
			f.Tags = nil
			checkAnswers(t, f, ask, false)
			ask.Tags = nil
			checkAnswers(t, f, ask, true)
			f.Code = 0x65
			checkAnswers(t, f, ask, false)
		}
	}
}

// P10: what answers something is known to do so at the other end.
func TestAnswersOfWhatWasRead(t *testing.T) {
	cookie := tags.Tag{Type: 0x0104, Data: []byte{5}}
	for n := range 300 {
		ask := search(0x09, tags.Tag{Type: 0x0101}, tag(0x0103, n))
		f := search(0x07, cookie, tag(0x0103, n))
		other := search(0x07, cookie, tag(0x0103, n+1))
		var got [3]ether.Frame
		for i, x := range []ether.Frame{ask, f, other} {
			got[i], _, _ = ether.Get(slices.Concat(written(t, x), make([]byte, 20)))
		}
		checkAnswers(t, got[1], got[0], true)
		checkAnswers(t, got[2], got[0], false)
		checkAnswers(t, got[0], got[1], false)
	}
}

// K4 to K6: nothing is changed, kept, or read behind a list's length.

// withRoom gives octets in a memory that has more behind them.
func withRoom(b []byte) []byte {
	return slices.Concat(b, make([]byte, 60), bytes.Repeat([]byte{0xa5}, 60))[:len(b)]
}

// roomy gives the same frame in memory that has more behind each of its lists.
func roomy(f ether.Frame) ether.Frame {
	f = copied(f)
	f.Tags = slices.Concat(f.Tags, []tags.Tag{{Type: 0x0103, Data: []byte{0xa5}}, {}})[:len(f.Tags)]
	for i, x := range f.Tags {
		f.Tags[i].Data = withRoom(x.Data)
	}
	p := &f.Packet
	p.Opts = slices.Concat(p.Opts, []api.Opt{{Type: 3, Data: []byte{0xa5}}, {}})[:len(p.Opts)]
	for i, o := range p.Opts {
		p.Opts[i].Data = withRoom(o.Data)
	}
	p.One, p.Two, p.Data = withRoom(p.One), withRoom(p.Two), withRoom(p.Data)
	p.Nums = slices.Concat(p.Nums, slices.Repeat([]uint32{0xa5a5a5a5}, 20))[:len(p.Nums)]
	return f
}

// whole gives a copy of all that the memory of a frame holds, room and all.
func whole(f ether.Frame) ether.Frame {
	f.Tags = slices.Clone(f.Tags[:cap(f.Tags)])
	for i, x := range f.Tags {
		f.Tags[i].Data = x.Data[:cap(x.Data)]
	}
	p := &f.Packet
	p.Opts = slices.Clone(p.Opts[:cap(p.Opts)])
	for i, o := range p.Opts {
		p.Opts[i].Data = o.Data[:cap(o.Data)]
	}
	p.One, p.Two, p.Data, p.Nums = p.One[:cap(p.One)], p.Two[:cap(p.Two)], p.Data[:cap(p.Data)], p.Nums[:cap(p.Nums)]
	return copied(f)
}

// spoil overwrites octets, and what lies behind them in their memory.
func spoil(b []byte) {
	b = b[:cap(b)]
	for i := range b {
		b[i] ^= 0xa5
	}
}

// spoilAll overwrites the lists of a frame, and all that their memory holds.
func spoilAll(f ether.Frame) {
	l := f.Tags[:cap(f.Tags)]
	for i := range l {
		spoil(l[i].Data)
		l[i] = tags.Tag{Type: ^l[i].Type, Data: []byte{0xa5}}
	}
	o := f.Packet.Opts[:cap(f.Packet.Opts)]
	for i := range o {
		spoil(o[i].Data)
		o[i] = api.Opt{Type: ^o[i].Type, Data: []byte{0xa5}}
	}
	n := f.Packet.Nums[:cap(f.Packet.Nums)]
	for i := range n {
		n[i] ^= 0xa5a5a5a5
	}
	spoil(f.Packet.One)
	spoil(f.Packet.Two)
	spoil(f.Packet.Data)
}

func TestNoRoomIsReadNorWritten(t *testing.T) {
	for _, f := range frames() {
		in, b := roomy(f), withRoom(written(t, f))
		before, octets := whole(in), bytes.Clone(b[:cap(b)])
		checkPut(t, in, written(t, f))
		checkGet(t, b, f, len(b), api.OK)
		for n := range len(b) {
			// What is missing lies in the room.
			checkWrong(t, b[:n], api.ErrShort)
		}
		ask := roomy(f)
		in.Code, ask.Code, before.Code = 0x07, 0x09, 0x07
		checkAnswers(t, in, ask, true)
		if !alike(whole(in), before) || !bytes.Equal(b[:cap(b)], octets) {
			t.Errorf("what was handed in of %v was changed", brief(f))
		}
	}
	// The unique tag of each of these lies in the room.
	checkAnswers(t, roomy(search(0x07)), search(0x09, tags.Tag{Type: 0x0103, Data: []byte{0xa5}}), false)
	checkAnswers(t, search(0x07), roomy(search(0x09)), true)
	checkPut(t, roomy(carry(api.Packet{Proto: api.IP})), []byte{0x11, 0, 1, 2, 0, 2, 0, 0x21})
}

// A payload that is told to end ends there, whatever lies behind it in the frame.
func TestNothingBehindAPayloadIsRead(t *testing.T) {
	checkWrong(t, []byte{0x11, 9, 0, 0, 0, 4, 1, 1, 0, 1, 7}, api.ErrShort)
	checkWrong(t, []byte{0x11, 0, 0, 1, 0, 6, 0xc0, 0x21, 5, 0, 0, 5, 1}, api.ErrShort)
	checkGet(t, []byte{0x11, 9, 0, 0, 0, 4, 1, 1, 0, 0, 1, 1, 0, 0}, search(9, tags.Tag{Type: 0x0101}), 10, api.OK)
	f := ether.Frame{Session: 1, Packet: api.Packet{Proto: api.IP, Data: []byte{7}}}
	checkGet(t, []byte{0x11, 0, 0, 1, 0, 3, 0, 0x21, 7, 8, 9}, f, 9, api.OK)
}

func TestAnswersAreNewMemory(t *testing.T) {
	for _, f := range frames() {
		in, octets := copied(f), written(t, f)
		b, _ := ether.Put(in)
		spoil(b)
		got, _, _ := ether.Get(octets)
		spoilAll(got)
		if !alike(in, f) || !bytes.Equal(octets, written(t, f)) {
			t.Errorf("answers of %v share its memory", brief(f))
		}
		checkPut(t, in, written(t, f))
		checkGet(t, octets, f, len(octets), api.OK)
	}
}

func TestNothingIsKept(t *testing.T) {
	for _, f := range frames() {
		in, octets := copied(f), written(t, f)
		b, _ := ether.Put(in)
		got, _, _ := ether.Get(octets)
		spoilAll(in)
		spoil(octets)
		if !bytes.Equal(b, written(t, f)) || !alike(got, f) {
			t.Errorf("answers of %v changed with what was handed in", brief(f))
		}
	}
}

func TestListsThatAreReadShareNoMemory(t *testing.T) {
	for _, f := range frames() {
		for i := range min(len(f.Tags), 5) {
			got, _, _ := ether.Get(written(t, f))
			spoil(got.Tags[i].Data)
			if got.Tags[i] = f.Tags[i]; !alike(got, f) {
				t.Errorf("of %v the tag %d shares memory with others", brief(f), i)
			}
		}
		got, _, _ := ether.Get(written(t, f))
		spoil(got.Packet.One)
		if got.Packet.One = f.Packet.One; !alike(got, f) {
			t.Errorf("lists of %v share memory", brief(f))
		}
	}
}

func TestNoRoomIsHandedOut(t *testing.T) {
	secret := bytes.Repeat([]byte{0xa5}, 60)
	for n := range 60 {
		data := slices.Concat(make([]byte, n), secret)[:n]
		one, _ := ether.Put(carry(api.Packet{Proto: api.IP, Data: data}))
		two, _ := ether.Put(search(0x09, tags.Tag{Type: 1, Data: data}))
		packet, _, _ := ether.Get(slices.Concat(one, secret))
		list, _, _ := ether.Get(slices.Concat(two, secret))
		for _, out := range [][]byte{one, two, packet.Packet.Data, list.Tags[0].Data} {
			if bytes.Contains(out[:cap(out)], []byte{0xa5}) {
				t.Errorf("% x has room that was handed in", out)
			}
		}
	}
}

// Errors leave nothing behind that a later call could tell.
func TestErrorsChangeNothing(t *testing.T) {
	for _, f := range frames() {
		checkPutWrong(t, ether.Frame{Code: 1}, api.ErrKind)
		checkPutWrong(t, ether.Frame{Code: 9, Session: 1}, api.ErrRange)
		checkPutWrong(t, search(0x65, tags.Tag{}), api.ErrKind)
		checkPutWrong(t, carry(api.Packet{Proto: api.LQR}), api.ErrRange)
		checkWrong(t, []byte{0x11, 9, 0, 0, 0, 5, 1, 1, 0, 0, 1}, api.ErrShort)
		checkWrong(t, []byte{0x11, 0, 0, 1, 0, 3, 0xc0, 0x21, 1}, api.ErrShort)
		checkAnswers(t, search(0x07), search(0x19), false)
		checkPut(t, f, written(t, f))
		checkGet(t, written(t, f), f, len(written(t, f)), api.OK)
	}
}
