package opts_test

import (
	"bytes"
	"slices"
	"testing"

	"marline/api"
	"marline/config"
	"marline/opts"
	"marline/tlv"
)

// row is a row of the chapter's table.
type row struct {
	proto       uint16
	kind        byte
	least, most int
}

// table gives the chapter's table.
func table() []row {
	return []row{
		{0xc021, 1, 2, 2}, {0xc021, 2, 4, 4}, {0xc021, 3, 2, 253}, {0xc021, 4, 2, 253},
		{0xc021, 5, 4, 4}, {0xc021, 7, 0, 0}, {0xc021, 8, 0, 0}, {0xc021, 9, 1, 1},
		{0x8021, 2, 2, 253}, {0x8021, 3, 4, 4},
		{0x8021, 129, 4, 4}, {0x8021, 130, 4, 4}, {0x8021, 131, 4, 4}, {0x8021, 132, 4, 4},
		{0x8057, 1, 8, 8}, {0x8057, 2, 2, 253},
	}
}

// protos are the protocols of the table, and others that look much like them.
func protos() []uint16 {
	return []uint16{
		0xc021, 0x8021, 0x8057, 0, 1, 0x21, 0x57, 0x3d, 0x4021, 0x0057, 0xc023, 0xc025, 0xc057, 0xc223,
		0xc020, 0xc022, 0x8020, 0x8022, 0x8056, 0x8058, 0x21c0, 0x2180, 0x5780, 0xc121, 0x8121, 0x8157, 0xffff,
	}
}

// some gives n octets that look like chance, but are the same in every run.
func some(seed uint32, n int) []byte {
	out := make([]byte, n)
	for i := range out {
		seed = seed*1664525 + 1013904223
		out[i] = byte(seed >> 24)
	}
	return out
}

// opt gives an option of a type that has n octets of data.
func opt(t byte, n int) api.Opt { return api.Opt{Type: t, Data: some(uint32(t), n)} }

// bounds says in the chapter's words how many octets an option's data has.
func bounds(p uint16, kind byte) (int, int) {
	for _, x := range table() {
		if x.proto == p && x.kind == kind {
			return x.least, x.most
		}
	}
	return 0, 253
}

// maybe says in the chapter's words whether an option may be.
func maybe(p uint16, o api.Opt) bool {
	least, most := bounds(p, o.Type)
	return least <= len(o.Data) && len(o.Data) <= most
}

// allMay says whether all options of a list may be.
func allMay(p uint16, l []api.Opt) bool {
	for _, o := range l {
		if !maybe(p, o) {
			return false
		}
	}
	return true
}

// number says in the chapter's words what an option's number is.
func number(o api.Opt) uint64 {
	n, power := uint64(0), uint64(1)
	for at := len(o.Data) - 1; at >= 0 && at >= len(o.Data)-8; at-- {
		n += uint64(o.Data[at]) * power
		power *= 256
	}
	return n
}

// settled says in the chapter's words which config comes of options.
func settled(c api.Config, l []api.Opt) (api.Config, api.Errno) {
	if !allMay(0xc021, l) {
		return api.Config{}, api.ErrForm
	}
	for _, o := range l {
		if o.Type == 1 {
			c.MRU = 256*int(o.Data[0]) + int(o.Data[1])
		} else if o.Type == 2 {
			c.Send = uint32(number(o))
		} else if o.Type == 7 {
			c.PFC = true
		} else if o.Type == 8 {
			c.ACFC = true
		} else if o.Type == 9 {
			c.Wide = o.Data[0]/4%2 == 1
		}
	}
	if c.MRU < 64 || c.MRU > 65535 {
		return api.Config{}, api.ErrRange
	}
	return c, api.OK
}

// chance gives n options that may be, of a protocol, and look like chance.
func chance(p uint16, seed uint32, n int) []api.Opt {
	var out []api.Opt
	for i := range n {
		octets := some(seed+uint32(i)*7+1, 2)
		kind := octets[0]
		if kind >= 64 {
			kind %= 12
		}
		least, most := bounds(p, kind)
		out = append(out, opt(kind, least+int(octets[1])%(most-least+1)))
	}
	return out
}

// lists are lists of options that may be, of a protocol.
func lists(p uint16) [][]api.Opt {
	out := [][]api.Opt{
		nil, {}, {{}}, {{}, {}}, {{Type: 255}}, {{Type: 7}, {Type: 8, Data: []byte{}}}, {{Type: 8}, {Type: 7}},
		{{Type: 200, Data: []byte{5, 0xdc}}}, {opt(0, 253)}, {opt(6, 253), {}, opt(255, 252)},
	}
	var all []api.Opt
	for _, x := range table() {
		if x.proto == p {
			out = append(out, []api.Opt{opt(x.kind, x.least)}, []api.Opt{opt(x.kind, x.most), opt(x.kind, x.least)})
			all = append(all, opt(x.kind, x.least))
		}
	}
	out = append(out, all, chance(p, 5, 500))
	for n := range 25 {
		out = append(out, chance(p, uint32(n), n))
	}
	return out
}

// asks are many options of LCP that Settle reads, and others.
func asks() []api.Opt {
	return []api.Opt{
		{Type: 1, Data: []byte{0, 0}}, {Type: 1, Data: []byte{0, 63}}, {Type: 1, Data: []byte{0, 64}},
		{Type: 1, Data: []byte{5, 0xdc}}, {Type: 1, Data: []byte{255, 255}},
		{Type: 2, Data: []byte{0, 0, 0, 0}}, {Type: 2, Data: []byte{0x80, 0x0a, 0, 1}},
		{Type: 7}, {Type: 8}, {Type: 9, Data: []byte{4}}, {Type: 9, Data: []byte{2}},
		{Type: 5, Data: []byte{1, 2, 3, 4}}, {Type: 0, Data: []byte{64}}, {},
	}
}

// configs are configs that may be, and such as may not.
func configs() []api.Config {
	return []api.Config{
		{}, config.Default(), {MRU: 64}, {MRU: 65535}, {MRU: 63}, {MRU: 65536}, {MRU: -1}, {MRU: 1 << 40}, {MRU: -1 << 63},
		{Sync: true, Wide: true, ACFC: true, PFC: true, Send: 0xffffffff, Recv: 0xffffffff, MRU: 1500},
		{Wide: true, PFC: true, Send: 1, Recv: 2, MRU: 100}, {Sync: true, ACFC: true, Send: 0x80000000, MRU: 70},
	}
}

// rows calls f with each row of 0 to most octets of those that are told; it may
// not keep them.
func rows(octets []byte, most int, f func(b []byte)) {
	var grow func(b []byte)
	grow = func(b []byte) {
		f(b)
		if len(b) == most {
			return
		}
		for _, c := range octets {
			grow(append(b, c))
		}
	}
	grow(make([]byte, 0, most))
}

// several calls f with each list of 0 to most options of those that are told; it
// may not keep them.
func several(l []api.Opt, most int, f func(l []api.Opt)) {
	var grow func(some []api.Opt)
	grow = func(some []api.Opt) {
		f(some)
		if len(some) == most {
			return
		}
		for _, o := range l {
			grow(append(some, o))
		}
	}
	grow(make([]api.Opt, 0, most))
}

// written says how layer 12 writes options that can be written.
func written(l []api.Opt) []byte {
	var out []byte
	for _, o := range l {
		out = append(out, o.Type, byte(len(o.Data)+2))
		out = append(out, o.Data...)
	}
	return out
}

// read says in the chapter's words which options of a protocol octets are.
func read(p uint16, b []byte) ([]api.Opt, api.Errno) {
	l, errno := tlv.Get(b)
	if errno == api.OK && !allMay(p, l) {
		return nil, api.ErrForm
	}
	return l, errno
}

// alike tells whether two lists of options have the same types and data.
func alike(a, b []api.Opt) bool {
	if len(a) != len(b) {
		return false
	}
	for i := range a {
		if a[i].Type != b[i].Type || string(a[i].Data) != string(b[i].Data) {
			return false
		}
	}
	return true
}

// copied gives the same options in memory of their own.
func copied(l []api.Opt) []api.Opt {
	var out []api.Opt
	for _, o := range l {
		out = append(out, api.Opt{Type: o.Type, Data: bytes.Clone(o.Data)})
	}
	return out
}

// brief gives at most some 5 options, so that what fails can be read.
func brief(l []api.Opt) []api.Opt { return l[:min(len(l), 5)] }

// checkSize holds what Size answers against what is wanted.
func checkSize(t *testing.T, p uint16, kind byte, least, most int) {
	t.Helper()
	if a, b := opts.Size(p, kind); a != least || b != most {
		t.Errorf("Size(%x, %d) = %d, %d, want %d, %d", p, kind, a, b, least, most)
	}
}

// checkRight holds what Right answers against what is wanted.
func checkRight(t *testing.T, p uint16, o api.Opt, want bool) {
	t.Helper()
	if got := opts.Right(p, o); got != want {
		t.Errorf("Right(%x, type %d, %d octets) = %t, want %t", p, o.Type, len(o.Data), got, want)
	}
}

// checkNum holds what Num answers against what is wanted.
func checkNum(t *testing.T, kind byte, n uint64, size int, want []byte) {
	t.Helper()
	if o := opts.Num(kind, n, size); o.Type != kind || !bytes.Equal(o.Data, want) {
		t.Errorf("Num(%d, %x, %d) = %d, % x, want % x", kind, n, size, o.Type, o.Data, want)
	}
}

// checkValue holds what Value answers against what is wanted.
func checkValue(t *testing.T, data []byte, want uint64) {
	t.Helper()
	for _, kind := range []byte{0, 1, 9, 255} {
		if n := opts.Value(api.Opt{Type: kind, Data: data}); n != want {
			t.Errorf("Value(%d, % x) = %x, want %x", kind, data, n, want)
		}
	}
}

// checkPut holds what Put answers against what is wanted.
func checkPut(t *testing.T, p uint16, l []api.Opt, want []byte) {
	t.Helper()
	if b, errno := opts.Put(p, l); errno != api.OK || !bytes.Equal(b, want) {
		t.Errorf("Put(%x, %d options, %v..) = %d octets, %d, want %d octets", p, len(l), brief(l), len(b), errno, len(want))
	}
}

// checkPutWrong wants that Put finds an option that may not be, and (K3) answers
// no octets.
func checkPutWrong(t *testing.T, p uint16, l []api.Opt) {
	t.Helper()
	if b, errno := opts.Put(p, l); errno != api.ErrForm || len(b) != 0 {
		t.Errorf("Put(%x, %d options, %v..) = %d octets, %d, want none, %d", p, len(l), brief(l), len(b), errno, api.ErrForm)
	}
}

// checkGet holds what Get answers against what is wanted.
func checkGet(t *testing.T, p uint16, b []byte, want []api.Opt, code api.Errno) {
	t.Helper()
	if l, errno := opts.Get(p, b); errno != code || !alike(l, want) {
		t.Errorf("Get(%x, % x) = %v, %d, want %v, %d", p, b, l, errno, want, code)
	}
}

// checkModel holds what Get answers against the chapter's words.
func checkModel(t *testing.T, p uint16, b []byte) {
	t.Helper()
	want, errno := read(p, b)
	checkGet(t, p, b, want, errno)
}

// checkSettle holds what Settle answers against what is wanted.
func checkSettle(t *testing.T, c api.Config, l []api.Opt, want api.Config, code api.Errno) {
	t.Helper()
	if got, errno := opts.Settle(c, l); got != want || errno != code {
		t.Errorf("Settle(%v, %d options, %v..) = %v, %d, want %v, %d", c, len(l), brief(l), got, errno, want, code)
	}
}

// checkSettled holds what Settle answers against the chapter's words.
func checkSettled(t *testing.T, c api.Config, l []api.Opt) {
	t.Helper()
	want, errno := settled(c, l)
	checkSettle(t, c, l, want, errno)
}

// P14.1: Size.

func TestSizeOfTheTable(t *testing.T) {
	for _, x := range table() {
		checkSize(t, x.proto, x.kind, x.least, x.most)
	}
}

func TestSizeOfOtherTypes(t *testing.T) {
	for _, x := range []struct {
		proto uint16
		kinds []byte
	}{
		{api.LCP, []byte{0, 6, 10, 11, 13, 17, 128, 129, 130, 255}},
		{api.IPCP, []byte{0, 1, 4, 5, 7, 8, 9, 127, 128, 133, 134, 255}},
		{api.IPV6CP, []byte{0, 3, 4, 5, 7, 8, 9, 128, 129, 132, 255}},
		{api.PAP, []byte{0, 1, 2, 3, 4, 5, 7, 8, 9, 129, 255}},
		{api.CHAP, []byte{0, 1, 2, 3, 4, 5, 7, 8, 9, 129, 255}},
		{0, []byte{0, 1, 2, 3, 4, 5, 7, 8, 9, 129, 255}},
	} {
		for _, kind := range x.kinds {
			checkSize(t, x.proto, kind, 0, 253)
		}
	}
}

func TestSizeOfEachType(t *testing.T) {
	for _, p := range protos() {
		for kind := range 256 {
			least, most := bounds(p, byte(kind))
			checkSize(t, p, byte(kind), least, most)
		}
	}
}

func TestSizeOfEachProtocol(t *testing.T) {
	for p := range 65536 {
		for _, kind := range []byte{0, 1, 2, 3, 4, 5, 6, 7, 8, 9, 128, 129, 130, 131, 132, 133, 255} {
			least, most := bounds(uint16(p), kind)
			checkSize(t, uint16(p), kind, least, most)
		}
	}
}

// P14.1: Right.

func TestRightOfKnownOptions(t *testing.T) {
	for _, x := range []struct {
		proto uint16
		o     api.Opt
		want  bool
	}{
		{api.LCP, api.Opt{Type: 1, Data: []byte{5, 0xdc}}, true},
		{api.LCP, api.Opt{Type: 1, Data: []byte{5}}, false},
		{api.LCP, api.Opt{Type: 1, Data: []byte{0, 5, 0xdc}}, false},
		{api.LCP, api.Opt{Type: 1}, false},
		{api.IPCP, api.Opt{Type: 1}, true},
		{api.IPV6CP, api.Opt{Type: 1, Data: []byte{5, 0xdc}}, false},
		{api.IPV6CP, opt(1, 8), true},
		{api.LCP, api.Opt{Type: 3, Data: []byte{0xc0}}, false},
		{api.LCP, api.Opt{Type: 3, Data: []byte{0xc0, 0x23}}, true},
		{api.IPCP, api.Opt{Type: 3, Data: []byte{0xc0, 0x23}}, false},
		{api.IPCP, api.Opt{Type: 3, Data: []byte{10, 0, 0, 1}}, true},
		{api.LCP, api.Opt{Type: 7}, true},
		{api.LCP, api.Opt{Type: 7, Data: []byte{}}, true},
		{api.LCP, api.Opt{Type: 7, Data: []byte{0}}, false},
		{api.LCP, api.Opt{}, true},
		{api.LCP, opt(0, 253), true},
		{api.LCP, opt(0, 254), false},
		{0, api.Opt{}, true},
		{0xffff, opt(255, 253), true},
		{0xffff, opt(255, 254), false},
	} {
		checkRight(t, x.proto, x.o, x.want)
	}
}

func TestRightOfEachTypeAndLength(t *testing.T) {
	octets := make([]byte, 600)
	for _, p := range protos() {
		for kind := range 256 {
			least, most := bounds(p, byte(kind))
			for n := range 270 {
				checkRight(t, p, api.Opt{Type: byte(kind), Data: octets[:n]}, least <= n && n <= most)
			}
			for _, n := range []int{509, 510, 511, 512, 600} {
				checkRight(t, p, api.Opt{Type: byte(kind), Data: octets[:n]}, false)
			}
		}
	}
}

// How many octets there are is all that counts, not what they are.
func TestRightOfWhateverData(t *testing.T) {
	for _, x := range table() {
		for n := range 20 {
			for seed := range 20 {
				checkRight(t, x.proto, api.Opt{Type: x.kind, Data: some(uint32(seed), n)}, x.least <= n && n <= x.most)
			}
		}
	}
}

func TestRightOfVeryLongData(t *testing.T) {
	for _, n := range []int{65535, 65536, 65538, 65540, 1 << 20} {
		for _, x := range table() {
			checkRight(t, x.proto, api.Opt{Type: x.kind, Data: make([]byte, n)}, false)
		}
		checkRight(t, 0, api.Opt{Data: make([]byte, n)}, false)
	}
}

// P14.1: Num, Value.

func TestNumOfKnownNumbers(t *testing.T) {
	for _, x := range []struct {
		kind byte
		n    uint64
		size int
		want []byte
	}{
		{1, 1500, 2, []byte{0x05, 0xdc}},
		{1, 0x12345, 2, []byte{0x23, 0x45}},
		{8, 5, 0, nil},
		{0, 0, 0, nil},
		{0, 0, 1, []byte{0}},
		{255, 0x1ff, 1, []byte{0xff}},
		{9, 4, 1, []byte{4}},
		{2, 0xa0000, 4, []byte{0, 0x0a, 0, 0}},
		{5, 0xfffffffe01020304, 4, []byte{1, 2, 3, 4}},
		{1, 7, 8, []byte{0, 0, 0, 0, 0, 0, 0, 7}},
		{1, 0x0102030405060708, 8, []byte{1, 2, 3, 4, 5, 6, 7, 8}},
		{1, 0x0102030405060708, 7, []byte{2, 3, 4, 5, 6, 7, 8}},
		{1, 0x0102030405060708, 5, []byte{4, 5, 6, 7, 8}},
		{1, 0x0102030405060708, 3, []byte{6, 7, 8}},
		{1, 1<<64 - 1, 8, []byte{255, 255, 255, 255, 255, 255, 255, 255}},
		{1, 1<<64 - 1, 6, []byte{255, 255, 255, 255, 255, 255}},
		{1, 1 << 63, 8, []byte{0x80, 0, 0, 0, 0, 0, 0, 0}},
		{1, 1 << 63, 7, make([]byte, 7)},
	} {
		checkNum(t, x.kind, x.n, x.size, x.want)
	}
}

func TestNumOfEachSize(t *testing.T) {
	for seed := range 500 {
		octets := some(uint32(seed), 8)
		n := number(api.Opt{Data: octets})
		for size := range 9 {
			checkNum(t, byte(seed), n, size, octets[8-size:])
		}
	}
}

func TestNumOfEachBit(t *testing.T) {
	for bit := range 64 {
		for size := range 9 {
			want := make([]byte, size)
			if at := size - 1 - bit/8; at >= 0 {
				want[at] = 1 << (bit % 8)
			}
			checkNum(t, 3, 1<<bit, size, want)
		}
	}
}

// Of other sizes nothing is promised but that each call ends, and none panics.
func TestNumOfOtherSizesEnds(t *testing.T) {
	for _, size := range []int{-1, -8, -1 << 63, 9, 255, 1<<63 - 1} {
		if o := opts.Num(1, 1500, size); o.Type != 1 {
			t.Errorf("Num(1, 1500, %d) is of the type %d", size, o.Type)
		}
	}
}

func TestValueOfKnownData(t *testing.T) {
	for _, x := range []struct {
		data []byte
		want uint64
	}{
		{nil, 0},
		{[]byte{}, 0},
		{[]byte{0}, 0},
		{[]byte{255}, 255},
		{[]byte{0x05, 0xdc}, 1500},
		{[]byte{0xdc, 0x05}, 0xdc05},
		{[]byte{0, 0, 1}, 1},
		{[]byte{1, 0, 0}, 0x10000},
		{[]byte{10, 0, 0, 1}, 0x0a000001},
		{[]byte{255, 255, 255, 255}, 0xffffffff},
		{[]byte{1, 2, 3, 4, 5, 6, 7, 8}, 0x0102030405060708},
		{[]byte{255, 255, 255, 255, 255, 255, 255, 255}, 1<<64 - 1},
		{[]byte{9, 1, 0, 0, 0, 0, 0, 0, 2}, 1<<56 | 2},
		{[]byte{255, 255, 0, 0, 0, 0, 0, 0, 0, 0}, 0},
		{append(make([]byte, 245), 1, 2, 3, 4, 5, 6, 7, 8), 0x0102030405060708},
		{append(bytes.Repeat([]byte{255}, 245), 0, 0, 0, 0, 0, 0, 0, 1), 1},
		{append(bytes.Repeat([]byte{255}, 1000), 0, 0, 0, 0, 0, 0, 1, 0), 256},
	} {
		checkValue(t, x.data, x.want)
	}
}

func TestValueOfEachLength(t *testing.T) {
	for n := range 300 {
		data := some(uint32(n), n)
		checkValue(t, data, number(api.Opt{Data: data}))
		checkValue(t, bytes.Repeat([]byte{255}, n), number(api.Opt{Data: bytes.Repeat([]byte{255}, min(n, 8))}))
	}
}

func TestValueOfEachBit(t *testing.T) {
	for n := range 12 {
		for bit := range 8 * n {
			data := make([]byte, n)
			data[n-1-bit/8] = 1 << (bit % 8)
			want := uint64(0)
			if bit < 64 {
				want = 1 << bit
			}
			checkValue(t, data, want)
		}
	}
}

func TestNumbersAreReadAsTheyWereWritten(t *testing.T) {
	for seed := range 300 {
		n := number(api.Opt{Data: some(uint32(seed), 8)})
		for size := range 9 {
			want := n
			if size < 8 {
				want = n % (1 << (8 * size))
			}
			if got := opts.Value(opts.Num(byte(seed), n, size)); got != want {
				t.Errorf("Value(Num(%d, %x, %d)) = %x, want %x", seed, n, size, got, want)
			}
		}
	}
}

// P14.2: Put.

func TestPutOfKnownLists(t *testing.T) {
	for _, x := range []struct {
		proto uint16
		l     []api.Opt
		want  []byte
	}{
		{api.LCP, nil, nil},
		{api.LCP, []api.Opt{}, nil},
		{api.LCP, []api.Opt{{}}, []byte{0x00, 0x02}},
		{api.LCP, []api.Opt{{Type: 1, Data: []byte{5, 0xdc}}, {Type: 8}}, []byte{0x01, 0x04, 0x05, 0xdc, 0x08, 0x02}},
		{api.LCP, []api.Opt{{Type: 8}, {Type: 7}, {Type: 8}}, []byte{0x08, 0x02, 0x07, 0x02, 0x08, 0x02}},
		{api.IPCP, []api.Opt{{Type: 3, Data: []byte{10, 0, 0, 1}}}, []byte{0x03, 0x06, 0x0a, 0x00, 0x00, 0x01}},
		{api.PAP, []api.Opt{{Type: 1}, {Type: 1, Data: []byte{9}}}, []byte{0x01, 0x02, 0x01, 0x03, 0x09}},
	} {
		checkPut(t, x.proto, x.l, x.want)
	}
}

func TestPutOfManyLists(t *testing.T) {
	for _, p := range protos() {
		for _, l := range lists(p) {
			checkPut(t, p, l, written(l))
		}
	}
}

func TestPutOfEachTypeAndLength(t *testing.T) {
	octets := some(1, 600)
	for _, p := range protos()[:6] {
		for kind := range 256 {
			least, most := bounds(p, byte(kind))
			for n := range 270 {
				l := []api.Opt{{Type: byte(kind), Data: octets[:n]}}
				if least <= n && n <= most {
					checkPut(t, p, l, written(l))
					continue
				}
				checkPutWrong(t, p, l)
			}
			checkPutWrong(t, p, []api.Opt{{Type: byte(kind), Data: octets}})
		}
	}
}

func TestPutTellsAnOptionThatMayNotBeWhereverItStands(t *testing.T) {
	for _, x := range table() {
		for at := range 20 {
			l := chance(x.proto, 3, 20)
			for _, n := range []int{x.least - 1, x.most + 1, 254, 300} {
				if n >= 0 {
					l[at] = opt(x.kind, n)
					checkPutWrong(t, x.proto, l)
				}
			}
			l[at] = opt(x.kind, x.least)
			checkPut(t, x.proto, l, written(l))
		}
	}
	checkPutWrong(t, api.LCP, []api.Opt{opt(0, 300), opt(1, 3)})
	checkPutWrong(t, api.LCP, []api.Opt{opt(1, 3), opt(0, 300)})
}

// P14.2: Get.

func TestGetOfKnownOctets(t *testing.T) {
	for _, x := range []struct {
		proto uint16
		b     []byte
		want  []api.Opt
		code  api.Errno
	}{
		{api.LCP, nil, nil, api.OK},
		{api.LCP, []byte{}, nil, api.OK},
		{api.LCP, []byte{1, 4, 0, 64, 7, 2}, []api.Opt{{Type: 1, Data: []byte{0, 64}}, {Type: 7}}, api.OK},
		{api.LCP, []byte{99, 3, 0}, []api.Opt{{Type: 99, Data: []byte{0}}}, api.OK},
		{api.IPCP, []byte{1, 3, 0}, []api.Opt{{Type: 1, Data: []byte{0}}}, api.OK},
		{api.IPCP, []byte{7, 3, 0}, []api.Opt{{Type: 7, Data: []byte{0}}}, api.OK},
		{api.LCP, []byte{1, 3, 0}, nil, api.ErrForm},
		{api.LCP, []byte{1, 5, 0, 0, 0}, nil, api.ErrForm},
		{api.LCP, []byte{7, 3, 0}, nil, api.ErrForm},
		{api.IPV6CP, []byte{1, 4, 0, 64}, nil, api.ErrForm},
		{api.LCP, []byte{7, 2, 1, 4, 0, 64, 9, 2}, nil, api.ErrForm},
		{api.LCP, []byte{1}, nil, api.ErrShort},
		{api.LCP, []byte{1, 1}, nil, api.ErrForm},
		{api.LCP, []byte{1, 4, 0}, nil, api.ErrShort},
	} {
		checkGet(t, x.proto, x.b, x.want, x.code)
	}
}

// An option that may not be is told only if all octets are options.
func TestGetTellsTheErrorOfLayer12First(t *testing.T) {
	for _, x := range []struct {
		b    []byte
		code api.Errno
	}{
		{[]byte{1, 3, 0, 9}, api.ErrShort},
		{[]byte{1, 3, 0, 9, 4, 1}, api.ErrShort},
		{[]byte{7, 3, 0, 8, 2, 9}, api.ErrShort},
		{[]byte{1, 3, 0, 9, 1}, api.ErrForm},
		{[]byte{1, 4, 0}, api.ErrShort},
		{[]byte{8, 2, 1, 3, 0, 8, 2, 0}, api.ErrShort},
	} {
		checkGet(t, api.LCP, x.b, nil, x.code)
	}
	for at := range 20 {
		l := chance(api.LCP, 4, 20)
		l[at] = opt(1, 3)
		b := written(l)
		checkGet(t, api.LCP, b, nil, api.ErrForm)
		checkGet(t, api.LCP, append(bytes.Clone(b), 9), nil, api.ErrShort)
		checkGet(t, api.LCP, append(bytes.Clone(b), 9, 3), nil, api.ErrShort)
		checkGet(t, api.LCP, append(bytes.Clone(b), 9, 1), nil, api.ErrForm)
	}
}

func TestGetOfEachTypeAndLength(t *testing.T) {
	for _, p := range protos()[:6] {
		for kind := range 256 {
			least, most := bounds(p, byte(kind))
			for n := range 254 {
				o := opt(byte(kind), n)
				if least <= n && n <= most {
					checkGet(t, p, written([]api.Opt{o}), []api.Opt{o}, api.OK)
					continue
				}
				checkGet(t, p, written([]api.Opt{o}), nil, api.ErrForm)
			}
		}
	}
}

func TestGetTellsAnOptionThatMayNotBeWhereverItStands(t *testing.T) {
	for _, x := range table() {
		for at := range 20 {
			l := chance(x.proto, 3, 20)
			for _, n := range []int{x.least - 1, x.most + 1} {
				if n >= 0 && n <= 253 {
					l[at] = opt(x.kind, n)
					checkGet(t, x.proto, written(l), nil, api.ErrForm)
				}
			}
			l[at] = opt(x.kind, x.least)
			checkGet(t, x.proto, written(l), l, api.OK)
		}
	}
}

func TestGetOfAllShortRows(t *testing.T) {
	for _, p := range []uint16{api.LCP, api.IPCP, api.IPV6CP, api.PAP} {
		check := func(b []byte) { checkModel(t, p, b) }
		rows([]byte{0, 1, 2, 3, 4, 9, 129}, 6, check)
		rows([]byte{2, 4, 7}, 9, check)
		for kind := range 256 {
			for length := range 256 {
				checkModel(t, p, []byte{byte(kind), byte(length)})
				checkModel(t, p, []byte{byte(kind), byte(length), 0, 2})
			}
		}
	}
}

func TestGetOfManyRows(t *testing.T) {
	for _, p := range protos() {
		for n := range 300 {
			b := some(uint32(n), n)
			for i := range b {
				// Lengths that are small let many options be read.
				b[i] %= byte(n%7 + 4)
			}
			checkModel(t, p, b)
		}
	}
}

func TestWhatIsWrittenIsRead(t *testing.T) {
	for _, p := range protos() {
		for _, l := range lists(p) {
			b, errno := opts.Put(p, l)
			if errno != api.OK {
				t.Errorf("Put(%x, %v..): %d", p, brief(l), errno)
			}
			checkGet(t, p, b, l, api.OK)
		}
	}
}

func TestWhatIsReadHasNoOtherWriting(t *testing.T) {
	for _, p := range []uint16{api.LCP, api.IPCP, api.IPV6CP, api.PAP} {
		rows([]byte{0, 1, 2, 3, 4, 7}, 7, func(b []byte) {
			l, errno := opts.Get(p, b)
			if errno == api.OK {
				checkPut(t, p, l, b)
			}
		})
	}
}

// P14.3: Settle.

func TestSettleOfEachOption(t *testing.T) {
	base := api.Config{Send: 1, Recv: 2, MRU: 70}
	set := api.Config{Sync: true, Wide: true, ACFC: true, PFC: true, Send: 1, Recv: 2, MRU: 70}
	for _, x := range []struct {
		o    api.Opt
		c    api.Config
		want api.Config
	}{
		{opts.Num(1, 1500, 2), base, api.Config{Send: 1, Recv: 2, MRU: 1500}},
		{opts.Num(2, 0x800a0001, 4), base, api.Config{Send: 0x800a0001, Recv: 2, MRU: 70}},
		{opts.Num(2, 0, 4), base, api.Config{Recv: 2, MRU: 70}},
		{api.Opt{Type: 7}, base, api.Config{PFC: true, Send: 1, Recv: 2, MRU: 70}},
		{api.Opt{Type: 7}, set, set},
		{api.Opt{Type: 8}, base, api.Config{ACFC: true, Send: 1, Recv: 2, MRU: 70}},
		{api.Opt{Type: 8}, set, set},
		{opts.Num(9, 4, 1), base, api.Config{Wide: true, Send: 1, Recv: 2, MRU: 70}},
		{opts.Num(9, 4, 1), set, set},
		{opts.Num(9, 3, 1), set, api.Config{Sync: true, ACFC: true, PFC: true, Send: 1, Recv: 2, MRU: 70}},
		{opts.Num(9, 2, 1), base, base},
		{opts.Num(5, 1500, 4), base, base},
		{opts.Num(3, 0xc023, 2), base, base},
		{opts.Num(4, 0xc025, 2), set, set},
		{opts.Num(0, 1500, 2), base, base},
		{opts.Num(6, 1500, 2), base, base},
		{opts.Num(10, 1500, 2), set, set},
	} {
		checkSettle(t, x.c, []api.Opt{x.o}, x.want, api.OK)
	}
}

func TestSettleOfNone(t *testing.T) {
	for _, c := range configs() {
		checkSettled(t, c, nil)
		checkSettled(t, c, []api.Opt{})
	}
	checkSettle(t, config.Default(), nil, config.Default(), api.OK)
	checkSettle(t, api.Config{Sync: true, MRU: 63}, nil, api.Config{}, api.ErrRange)
	checkSettle(t, api.Config{Sync: true, MRU: 65536}, []api.Opt{{Type: 7}}, api.Config{}, api.ErrRange)
}

func TestSettleOfEachMRU(t *testing.T) {
	for n := range 65536 {
		o := []api.Opt{{Type: 1, Data: []byte{byte(n / 256), byte(n % 256)}}}
		if n < 64 {
			checkSettle(t, config.Default(), o, api.Config{}, api.ErrRange)
			continue
		}
		want := config.Default()
		want.MRU = n
		checkSettle(t, config.Default(), o, want, api.OK)
		checkSettle(t, api.Config{Send: want.Send, Recv: want.Recv, MRU: -5}, o, want, api.OK)
	}
}

func TestSettleOfEachBitOfTheMap(t *testing.T) {
	for bit := range 32 {
		c := api.Config{Send: 0xffffffff, Recv: 5, MRU: 100}
		checkSettle(t, c, []api.Opt{opts.Num(2, 1<<bit, 4)}, api.Config{Send: 1 << bit, Recv: 5, MRU: 100}, api.OK)
	}
}

func TestSettleOfEachSum(t *testing.T) {
	for n := range 256 {
		for _, c := range []api.Config{{MRU: 64}, {Wide: true, Sync: true, MRU: 65535}} {
			want := c
			want.Wide = n&4 == 4
			checkSettle(t, c, []api.Opt{{Type: 9, Data: []byte{byte(n)}}}, want, api.OK)
		}
	}
}

func TestSettleOfOtherTypes(t *testing.T) {
	for _, c := range configs() {
		for kind := range 256 {
			if slices.Contains([]int{1, 2, 7, 8, 9}, kind) {
				continue
			}
			for _, n := range []int{0, 1, 2, 4, 8, 253} {
				checkSettled(t, c, []api.Opt{opt(byte(kind), n)})
				checkSettled(t, c, []api.Opt{{Type: byte(kind), Data: bytes.Repeat([]byte{255}, n)}})
			}
		}
	}
}

func TestSettleTakesOneBehindTheOther(t *testing.T) {
	base := api.Config{Sync: true, Wide: true, Send: 1, Recv: 2, MRU: 64}
	for _, x := range []struct {
		l    []api.Opt
		want api.Config
	}{
		{[]api.Opt{opts.Num(1, 100, 2), opts.Num(2, 0xa0000, 4), {Type: 7}, {Type: 8}, opts.Num(9, 2, 1), opts.Num(5, 9, 4)},
			api.Config{Sync: true, ACFC: true, PFC: true, Send: 0xa0000, Recv: 2, MRU: 100}},
		{[]api.Opt{opts.Num(1, 9, 2), opts.Num(1, 99, 2), opts.Num(9, 6, 1)},
			api.Config{Sync: true, Wide: true, Send: 1, Recv: 2, MRU: 99}},
		{[]api.Opt{opts.Num(1, 100, 2), opts.Num(1, 200, 2)}, api.Config{Sync: true, Wide: true, Send: 1, Recv: 2, MRU: 200}},
		{[]api.Opt{opts.Num(2, 5, 4), opts.Num(2, 6, 4)}, api.Config{Sync: true, Wide: true, Send: 6, Recv: 2, MRU: 64}},
		{[]api.Opt{opts.Num(9, 0, 1), opts.Num(9, 4, 1)}, base},
		{[]api.Opt{opts.Num(9, 4, 1), opts.Num(9, 0, 1)}, api.Config{Sync: true, Send: 1, Recv: 2, MRU: 64}},
	} {
		checkSettle(t, base, x.l, x.want, api.OK)
	}
	checkSettle(t, base, []api.Opt{opts.Num(1, 99, 2), opts.Num(1, 9, 2)}, api.Config{}, api.ErrRange)
}

func TestSettleOfManyLists(t *testing.T) {
	for _, c := range configs() {
		several(asks(), 3, func(l []api.Opt) { checkSettled(t, c, l) })
		for _, l := range lists(api.LCP) {
			checkSettled(t, c, l)
		}
	}
}

func TestSettleTellsAnOptionThatMayNotBe(t *testing.T) {
	for _, c := range configs() {
		for kind := range 256 {
			least, most := bounds(api.LCP, byte(kind))
			for n := range 260 {
				if n < least || n > most {
					checkSettle(t, c, []api.Opt{opt(byte(kind), n)}, api.Config{}, api.ErrForm)
				}
			}
		}
	}
}

// An option that may not be is told wherever it stands, and ahead of an MRU that
// may not be.
func TestSettleTellsOptionsAheadOfTheConfig(t *testing.T) {
	low, wrong := opts.Num(1, 9, 2), api.Opt{Type: 3, Data: []byte{0xc0}}
	for _, l := range [][]api.Opt{{low, wrong}, {wrong, low}, {low, {Type: 7}, wrong, {Type: 8}}, {low, opts.Num(1, 9, 3)}, {low, opt(77, 254)}} {
		for _, c := range configs() {
			checkSettle(t, c, l, api.Config{}, api.ErrForm)
		}
	}
	for at := range 20 {
		l := chance(api.LCP, 6, 20)
		l[at] = opt(8, 1)
		checkSettle(t, config.Default(), l, api.Config{}, api.ErrForm)
	}
}

// Options that may be of another protocol, but not of LCP.
func TestSettleReadsOptionsOfLCP(t *testing.T) {
	for _, o := range []api.Opt{opt(3, 1), opt(1, 8), opt(7, 1), opt(9, 0), opt(2, 2)} {
		checkSettle(t, config.Default(), []api.Opt{o}, api.Config{}, api.ErrForm)
	}
	for kind := 129; kind < 133; kind++ {
		checkSettle(t, config.Default(), []api.Opt{opt(byte(kind), 3)}, config.Default(), api.OK)
	}
}

// K5, K6: nothing is changed, kept, or read behind a list's length.

// withRoom gives octets in a memory that has more behind them.
func withRoom(b []byte) []byte {
	return slices.Concat(b, bytes.Repeat([]byte{2}, 20), bytes.Repeat([]byte{0xa5}, 40))[:len(b)]
}

// roomy gives the same options in memory that has more behind the list, and
// behind each option's data; what lies there may not be.
func roomy(l []api.Opt) []api.Opt {
	out := slices.Concat(l, []api.Opt{{Type: 1, Data: make([]byte, 300)}, {Type: 1, Data: []byte{0, 9}}, {Type: 7, Data: []byte{7}}})
	for i := range l {
		out[i].Data = withRoom(l[i].Data)
	}
	return out[:len(l)]
}

// whole gives a copy of all that the memory of options holds, room and all.
func whole(l []api.Opt) []api.Opt {
	var out []api.Opt
	for _, o := range l[:cap(l)] {
		out = append(out, api.Opt{Type: o.Type, Data: bytes.Clone(o.Data[:cap(o.Data)])})
	}
	return out
}

// spoil overwrites octets, and what lies behind them in their memory.
func spoil(b []byte) {
	b = b[:cap(b)]
	for i := range b {
		b[i] ^= 0xa5
	}
}

// spoilAll overwrites options, and all that their memory holds.
func spoilAll(l []api.Opt) {
	l = l[:cap(l)]
	for i := range l {
		spoil(l[i].Data)
		l[i] = api.Opt{Type: ^l[i].Type, Data: []byte{0xa5}}
	}
}

func TestNoRoomIsReadNorWritten(t *testing.T) {
	for _, p := range protos()[:6] {
		for _, l := range lists(p) {
			in := roomy(l)
			before := whole(in)
			checkPut(t, p, in, written(l))
			checkSettled(t, config.Default(), in)
			for i, o := range in {
				checkRight(t, p, o, true)
				if got := opts.Value(o); got != number(l[i]) {
					t.Errorf("Value(%v) = %x, want %x", l[i], got, number(l[i]))
				}
			}
			if !alike(whole(in), before) {
				t.Errorf("%v was changed", brief(l))
			}
			b := withRoom(written(l))
			octets := bytes.Clone(b[:cap(b)])
			checkGet(t, p, b, l, api.OK)
			if len(b) > 0 {
				// What is missing lies in the room.
				want, errno := read(p, bytes.Clone(b[:len(b)-1]))
				checkGet(t, p, b[:len(b)-1], want, errno)
			}
			if !bytes.Equal(b[:cap(b)], octets) {
				t.Errorf("% x was changed", b)
			}
		}
	}
}

// What is missing of data lies in its room.
func TestNoRoomIsCounted(t *testing.T) {
	for _, x := range table() {
		if x.least > 0 {
			o := api.Opt{Type: x.kind, Data: some(1, 300)[:x.least-1]}
			checkRight(t, x.proto, o, false)
			checkPutWrong(t, x.proto, []api.Opt{o})
		}
	}
	checkValue(t, []byte{1, 2, 3}[:1], 1)
	checkValue(t, []byte{1, 2, 3}[:0], 0)
}

func TestAnswersAreNewMemory(t *testing.T) {
	for _, p := range protos()[:6] {
		for _, l := range lists(p) {
			in, octets := copied(l), written(l)
			b, _ := opts.Put(p, in)
			spoil(b)
			got, _ := opts.Get(p, octets)
			spoilAll(got)
			if !alike(in, l) || !bytes.Equal(octets, written(l)) {
				t.Errorf("answers of %v share its memory", brief(l))
			}
			checkPut(t, p, in, written(l))
			checkGet(t, p, octets, l, api.OK)
		}
	}
	for size := range 9 {
		spoil(opts.Num(1, 0x0102030405060708, size).Data)
		checkNum(t, 1, 0x0102030405060708, size, []byte{1, 2, 3, 4, 5, 6, 7, 8}[8-size:])
	}
}

func TestNothingIsKept(t *testing.T) {
	for _, p := range protos()[:6] {
		for _, l := range lists(p) {
			in, octets := copied(l), written(l)
			b, _ := opts.Put(p, in)
			got, _ := opts.Get(p, octets)
			spoilAll(in)
			spoil(octets)
			if !bytes.Equal(b, written(l)) || !alike(got, l) {
				t.Errorf("answers of %v changed with what was handed in", brief(l))
			}
		}
	}
}

func TestOptionsThatAreReadShareNoMemory(t *testing.T) {
	for _, l := range lists(api.LCP) {
		b := written(l)
		for i := range min(len(l), 30) {
			got, _ := opts.Get(api.LCP, b)
			spoil(got[i].Data)
			if !alike(got[:i], l[:i]) || !alike(got[i+1:], l[i+1:]) {
				t.Errorf("of % x the option %d shares memory with others", b, i)
			}
		}
	}
}

func TestNoRoomIsHandedOut(t *testing.T) {
	secret := bytes.Repeat([]byte{0xa5}, 40)
	for n := range 60 {
		data := slices.Concat(make([]byte, n), secret)[:n]
		b, _ := opts.Put(0, []api.Opt{{Type: 1, Data: data}})
		octets := slices.Concat([]byte{1, byte(n + 2)}, data, secret)
		got, _ := opts.Get(0, octets[:n+2])
		for _, out := range [][]byte{b, got[0].Data} {
			if bytes.Contains(out[len(out):cap(out)], []byte{0xa5}) {
				t.Errorf("% x has room that was handed in", out)
			}
		}
	}
}

// Errors leave nothing behind that a later call could tell.
func TestErrorsChangeNothing(t *testing.T) {
	c, good, wrong := config.Default(), []api.Opt{opts.Num(1, 100, 2)}, []api.Opt{opts.Num(1, 9, 2), opt(1, 3)}
	for range 3 {
		checkPutWrong(t, api.LCP, wrong)
		checkSettle(t, c, wrong, api.Config{}, api.ErrForm)
		checkSettle(t, c, wrong[:1], api.Config{}, api.ErrRange)
		checkGet(t, api.LCP, []byte{1, 3, 0}, nil, api.ErrForm)
		checkPut(t, api.LCP, good, []byte{1, 4, 0, 100})
		checkSettled(t, c, good)
		checkSize(t, api.LCP, 1, 2, 2)
	}
}

// P14.3: what comes of options is a config that may be, whatever they are.
func TestWhatIsSettledMayBe(t *testing.T) {
	for _, c := range configs() {
		several(asks(), 3, func(l []api.Opt) {
			if got, errno := opts.Settle(c, l); errno == api.OK && config.Check(got) != api.OK {
				t.Errorf("Settle(%v, %v) = %v, which may not be", c, l, got)
			}
		})
	}
}
