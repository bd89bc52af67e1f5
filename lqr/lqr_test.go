package lqr_test

import (
	"bytes"
	"encoding/binary"
	"slices"
	"testing"

	"marline/api"
	"marline/lqr"
)

// The protocol, how many numbers a report has, and how many octets, as the chapter
// has them.
const (
	proto = 0xc025
	count = 12
	size  = 48
)

// The places of the numbers that Lost goes by.
const (
	known = 2
	came  = 5
)

// some gives n numbers that look like chance, but are the same in every run.
func some(seed uint32, n int) []uint32 {
	out := make([]uint32, n)
	for i := range out {
		high := seed*1664525 + 1013904223
		seed = high*1664525 + 1013904223
		out[i] = high&0xffff0000 | seed>>16
	}
	return out
}

// octets gives n octets that look like chance, but are the same in every run.
func octets(seed uint32, n int) []byte {
	out := make([]byte, n)
	for i, x := range some(seed, n) {
		out[i] = byte(x >> 24)
	}
	return out
}

// report gives a packet of these numbers.
func report(nums ...uint32) api.Packet { return api.Packet{Proto: proto, Nums: nums} }

// with gives a packet of noughts but for one number.
func with(place int, n uint32) api.Packet {
	p := report(make([]uint32, count)...)
	p.Nums[place] = n
	return p
}

// edges are numbers about those where another octet, or none, holds them.
func edges() []uint32 {
	out := []uint32{0, 1, 2, 0x01020304, 0xfffefdfc, 0x7fffffff, 0x80000000, 0x80000001, 0xfffffffe, 0xffffffff, 0xdeadbeef}
	for i := range 32 {
		out = append(out, 1<<i, 1<<i-1, 1<<i+1, ^uint32(1<<i))
	}
	return out
}

// packets are packets that can be written.
func packets() []api.Packet {
	out := []api.Packet{
		report(make([]uint32, count)...),
		report(slices.Repeat([]uint32{0xffffffff}, count)...),
		report(slices.Repeat([]uint32{1}, count)...),
		report(1, 2, 3, 4, 5, 6, 7, 8, 9, 10, 11, 12),
		report(12, 11, 10, 9, 8, 7, 6, 5, 4, 3, 2, 1),
	}
	for place := range count {
		for _, n := range edges() {
			out = append(out, with(place, n))
		}
	}
	for seed := range uint32(300) {
		out = append(out, report(some(seed, count)...))
	}
	return out
}

// written says in the chapter's words how a packet that can be written is.
func written(p api.Packet) []byte {
	var out []byte
	for _, n := range p.Nums {
		out = binary.BigEndian.AppendUint32(out, n)
	}
	return out
}

// read says in the chapter's words which packet octets begin with.
func read(b []byte) (api.Packet, api.Errno) {
	if len(b) < size {
		return api.Packet{}, api.ErrShort
	}
	p := api.Packet{Proto: proto}
	for i := range count {
		p.Nums = append(p.Nums, binary.BigEndian.Uint32(b[4*i:]))
	}
	return p, api.OK
}

// lost says in the chapter's words how many packets were lost.
func lost(a, b api.Packet) (uint32, bool) {
	if len(a.Nums) != count || len(b.Nums) != count {
		return 0, false
	}
	sent := int64(b.Nums[known]) - int64(a.Nums[known])
	here := int64(b.Nums[came]) - int64(a.Nums[came])
	const all = int64(1) << 32
	return uint32(((sent-here)%all + all) % all), true
}

// sameOpts tells whether two lists of options have the same types and data.
func sameOpts(a, b []api.Opt) bool {
	return slices.EqualFunc(a, b, func(a, b api.Opt) bool { return a.Type == b.Type && bytes.Equal(a.Data, b.Data) })
}

// alike tells whether two packets have the same fields, one by one.
func alike(a, b api.Packet) bool {
	return a.Proto == b.Proto && a.Code == b.Code && a.ID == b.ID && a.Sub == b.Sub && a.Magic == b.Magic &&
		sameOpts(a.Opts, b.Opts) && bytes.Equal(a.One, b.One) && bytes.Equal(a.Two, b.Two) &&
		bytes.Equal(a.Data, b.Data) && slices.Equal(a.Nums, b.Nums)
}

// copied gives the same packet, of which the numbers have memory of their own.
func copied(p api.Packet) api.Packet {
	p.Nums = slices.Clone(p.Nums)
	return p
}

// brief gives a packet of which what fails can be read.
func brief(p api.Packet) api.Packet {
	p.Nums = p.Nums[:min(len(p.Nums), 16)]
	return p
}

// checkPut holds what Put answers against what is wanted.
func checkPut(t *testing.T, p api.Packet, want []byte) {
	t.Helper()
	if b, errno := lqr.Put(p); errno != api.OK || !bytes.Equal(b, want) {
		t.Errorf("Put(%v) = % x, %d, want % x", brief(p), b, errno, want)
	}
}

// checkPutWrong wants that Put answers an error, and (K3) no octets.
func checkPutWrong(t *testing.T, p api.Packet, code api.Errno) {
	t.Helper()
	if b, errno := lqr.Put(p); errno != code || len(b) != 0 {
		t.Errorf("Put(%v) = % x, %d, want none, %d", brief(p), b, errno, code)
	}
}

// checkGet holds what Get answers against what is wanted.
func checkGet(t *testing.T, b []byte, want api.Packet, code api.Errno) {
	t.Helper()
	if p, errno := lqr.Get(b); errno != code || !alike(p, want) {
		t.Errorf("Get(%d octets, % x..) = %v, %d, want %v, %d", len(b), b[:min(len(b), size)], p, errno, want, code)
	}
}

// checkRead wants that octets are read as a packet.
func checkRead(t *testing.T, b []byte, want api.Packet) {
	t.Helper()
	checkGet(t, b, want, api.OK)
}

// checkShort wants that octets are too few, and (K3) that no packet is read.
func checkShort(t *testing.T, b []byte) {
	t.Helper()
	checkGet(t, b, api.Packet{}, api.ErrShort)
}

// checkLost holds what Lost answers against what is wanted.
func checkLost(t *testing.T, a, b api.Packet, want uint32, ok bool) {
	t.Helper()
	if n, is := lqr.Lost(a, b); n != want || is != ok {
		t.Errorf("Lost(%v, %v) = %d, %v, want %d, %v", brief(a), brief(b), n, is, want, ok)
	}
}

// checkLostModel holds what Lost answers against the chapter's words.
func checkLostModel(t *testing.T, a, b api.Packet) {
	t.Helper()
	want, ok := lost(a, b)
	checkLost(t, a, b, want, ok)
}

func TestCount(t *testing.T) {
	if lqr.Count != count {
		t.Errorf("Count is %d", lqr.Count)
	}
}

// P19.1: Put.

func TestPutOfKnownPackets(t *testing.T) {
	checkPut(t, report(0, 0, 0, 0, 0, 0, 0, 0, 0, 0, 0, 0), make([]byte, 48))
	checkPut(t, api.Packet{Proto: api.LQR, Nums: []uint32{
		0x00010203, 0x04050607, 0x08090a0b, 0x0c0d0e0f, 0x10111213, 0x14151617,
		0x18191a1b, 0x1c1d1e1f, 0x20212223, 0x24252627, 0x28292a2b, 0x2c2d2e2f,
	}}, []byte{
		0, 1, 2, 3, 4, 5, 6, 7, 8, 9, 10, 11, 12, 13, 14, 15, 16, 17, 18, 19, 20, 21, 22, 23,
		24, 25, 26, 27, 28, 29, 30, 31, 32, 33, 34, 35, 36, 37, 38, 39, 40, 41, 42, 43, 44, 45, 46, 47,
	})
	checkPut(t, report(1, 1<<8, 1<<16, 1<<24, 0xffffffff, 0xfffffffe, 0x80000000, 0x7fffffff, 256, 255, 65536, 12), []byte{
		0, 0, 0, 1, 0, 0, 1, 0, 0, 1, 0, 0, 1, 0, 0, 0, 255, 255, 255, 255, 255, 255, 255, 254,
		128, 0, 0, 0, 127, 255, 255, 255, 0, 0, 1, 0, 0, 0, 0, 255, 0, 1, 0, 0, 0, 0, 0, 12,
	})
}

func TestPutOfManyPackets(t *testing.T) {
	for _, p := range packets() {
		checkPut(t, p, written(p))
	}
}

func TestPutTellsOtherProtocols(t *testing.T) {
	for n := range 65536 {
		p := report(some(uint32(n), count)...)
		p.Proto = uint16(n)
		if n == proto {
			checkPut(t, p, written(p))
			continue
		}
		checkPutWrong(t, p, api.ErrKind)
	}
}

// aliens are what sets each field that no report has to what isn't nothing.
func aliens() []func(p *api.Packet) {
	out := []func(p *api.Packet){
		func(p *api.Packet) { p.Opts = []api.Opt{{}} },
		func(p *api.Packet) { p.Opts = []api.Opt{{Type: 1, Data: []byte{5, 0xdc}}, {Type: 7}} },
		func(p *api.Packet) { p.One = []byte{0} },
		func(p *api.Packet) { p.One = make([]byte, 300) },
		func(p *api.Packet) { p.Two = []byte{0} },
		func(p *api.Packet) { p.Two = []byte{1, 2} },
		func(p *api.Packet) { p.Data = []byte{0} },
		func(p *api.Packet) { p.Data = make([]byte, 48) },
		func(p *api.Packet) { p.Sub = proto },
		func(p *api.Packet) { p.Magic = 0xffffffff },
	}
	for i := range 8 {
		out = append(out, func(p *api.Packet) { p.Code = 1 << i }, func(p *api.Packet) { p.ID = 1 << i })
	}
	for i := range 16 {
		out = append(out, func(p *api.Packet) { p.Sub = 1 << i })
	}
	for i := range 32 {
		out = append(out, func(p *api.Packet) { p.Magic = 1 << i })
	}
	return out
}

func TestPutTellsFieldsThatNoReportHas(t *testing.T) {
	for i, set := range aliens() {
		for _, nums := range [][]uint32{some(uint32(i), count), make([]uint32, count)} {
			p := report(nums...)
			set(&p)
			checkPutWrong(t, p, api.ErrField)
		}
	}
}

func TestPutTellsTwoFieldsThatNoReportHas(t *testing.T) {
	for i, set := range aliens() {
		for _, add := range aliens()[i+1:] {
			p := report(some(uint32(i), count)...)
			set(&p)
			add(&p)
			checkPutWrong(t, p, api.ErrField)
		}
	}
}

// A magic number is the first of Nums; the field of that name isn't a report's.
func TestPutTellsMagicThatIsThatOfNums(t *testing.T) {
	p := with(0, 7)
	p.Magic = 7
	checkPutWrong(t, p, api.ErrField)
}

// counts are how many numbers no report has.
func counts() []int {
	out := []int{100, 256, 256 + count, 65536, 65536 + count, 1 << 20}
	for n := range 60 {
		if n != count {
			out = append(out, n)
		}
	}
	return out
}

func TestPutTellsOtherThanTwelveNumbers(t *testing.T) {
	for _, n := range counts() {
		checkPutWrong(t, report(make([]uint32, n)...), api.ErrRange)
		checkPutWrong(t, report(some(uint32(n), n)...), api.ErrRange)
	}
	checkPutWrong(t, api.Packet{Proto: proto}, api.ErrRange)
	checkPutWrong(t, api.Packet{Proto: proto, Nums: make([]uint32, 0, count)}, api.ErrRange)
	checkPutWrong(t, api.Packet{Proto: proto, Nums: make([]uint32, count)[:count-1]}, api.ErrRange)
}

// K2: another protocol ahead of a field, and a field ahead of numbers that aren't
// twelve.
func TestPutTellsTheFirstError(t *testing.T) {
	for _, n := range append(counts(), count) {
		nums := make([]uint32, n)
		for _, other := range []uint16{0, 0x21, api.LCP, api.PAP, api.CHAP, api.MP, proto + 1, proto - 1} {
			checkPutWrong(t, api.Packet{Proto: other, Nums: nums}, api.ErrKind)
		}
		for _, set := range aliens() {
			p := api.Packet{Proto: proto, Nums: nums}
			set(&p)
			checkPutWrong(t, p, api.ErrField)
			p.Proto = api.LCP
			checkPutWrong(t, p, api.ErrKind)
		}
	}
	checkPutWrong(t, api.Packet{}, api.ErrKind)
}

// K1: a list that is empty is nothing, as one that is nil.
func TestEmptyListsAreNothing(t *testing.T) {
	for _, p := range packets() {
		want := written(p)
		p.Opts, p.One, p.Two, p.Data = []api.Opt{}, []byte{}, make([]byte, 0, 9), []byte{}
		checkPut(t, p, want)
		p.Opts = make([]api.Opt, 0, 9)
		p.Nums = []uint32{}
		checkPutWrong(t, p, api.ErrRange)
	}
}

// P19.1: Get.

func TestGetOfKnownOctets(t *testing.T) {
	checkRead(t, make([]byte, 48), report(0, 0, 0, 0, 0, 0, 0, 0, 0, 0, 0, 0))
	b := make([]byte, 60)
	for i := range b {
		b[i] = byte(i)
	}
	want := report(0x00010203, 0x04050607, 0x08090a0b, 0x0c0d0e0f, 0x10111213, 0x14151617,
		0x18191a1b, 0x1c1d1e1f, 0x20212223, 0x24252627, 0x28292a2b, 0x2c2d2e2f)
	checkRead(t, b[:48], want)
	checkRead(t, b[:49], want)
	checkRead(t, b[:52], want)
	checkRead(t, b, want)
	checkShort(t, b[:47])
}

// Each octet, by each that it may be.
func TestGetOfEachOctet(t *testing.T) {
	for i := range size {
		for o := range 256 {
			b := make([]byte, size)
			b[i] = byte(o)
			checkRead(t, b, with(i/4, uint32(o)<<(24-i%4*8)))
		}
	}
}

func TestGetOfEachLength(t *testing.T) {
	checkShort(t, nil)
	checkShort(t, []byte{})
	for n := range 200 {
		for _, b := range [][]byte{make([]byte, n), octets(uint32(n), n), bytes.Repeat([]byte{255}, n)} {
			want, errno := read(b)
			if (errno == api.OK) != (n >= 48) {
				t.Fatalf("the model reads %d octets as %d", n, errno)
			}
			checkGet(t, b, want, errno)
		}
	}
	for _, n := range []int{255, 256, 257, 256 + 47, 1500, 65535, 65536, 65536 + 47, 1 << 20} {
		b := octets(uint32(n), n)
		want, errno := read(b)
		checkGet(t, b, want, errno)
	}
}

func TestGetOfPacketsThatAreCutOff(t *testing.T) {
	for _, p := range packets() {
		b := written(p)
		for n := range size {
			checkShort(t, b[:n])
		}
	}
}

// What stands behind counts for nothing.
func TestGetOfWhateverStandsBehind(t *testing.T) {
	for i, p := range packets() {
		for _, behind := range [][]byte{nil, {0}, {255}, {0xc0, 0x25}, octets(uint32(i), 1+i%70), written(p)} {
			checkRead(t, slices.Concat(written(p), behind), p)
		}
	}
}

// What is written is read again, and what is read is written again.
func TestWrittenAndRead(t *testing.T) {
	for i, p := range packets() {
		b, errno := lqr.Put(p)
		if errno != api.OK || len(b) != size {
			t.Errorf("Put(%v) = %d octets, %d", p, len(b), errno)
			continue
		}
		checkRead(t, b, p)
		row := octets(uint32(i), size)
		q, _ := lqr.Get(row)
		checkPut(t, q, row)
	}
}

// P4: unlike packets have unlike writings.
func TestUnlikePacketsDiffer(t *testing.T) {
	seen := map[string]api.Packet{}
	for _, p := range packets() {
		b, _ := lqr.Put(p)
		if other, ok := seen[string(b)]; ok && !alike(p, other) {
			t.Errorf("%v and %v are both written as % x", p, other, b)
		}
		seen[string(b)] = p
	}
}

// P19.2: Lost.

// pair gives a report of which only the numbers that Lost goes by are told.
func pair(k, c uint32) api.Packet {
	p := with(known, k)
	p.Nums[came] = c
	return p
}

func TestLostOfKnownReports(t *testing.T) {
	const most = 0xffffffff
	for _, x := range []struct {
		a, b [2]uint32
		want uint32
	}{
		{[2]uint32{0, 0}, [2]uint32{0, 0}, 0},
		{[2]uint32{10, 8}, [2]uint32{10, 8}, 0},
		{[2]uint32{10, 10}, [2]uint32{20, 20}, 0},
		{[2]uint32{10, 8}, [2]uint32{20, 18}, 0},
		{[2]uint32{10, 10}, [2]uint32{20, 17}, 3},
		{[2]uint32{10, 8}, [2]uint32{20, 8}, 10},
		{[2]uint32{0, 0}, [2]uint32{most, 0}, most},
		{[2]uint32{0, 0}, [2]uint32{most, 1}, most - 1},
		{[2]uint32{0, 0}, [2]uint32{most, most}, 0},
		// One of the numbers has wrapped round, or both have.
		{[2]uint32{most, 4}, [2]uint32{0, 4}, 1},
		{[2]uint32{most - 1, 5}, [2]uint32{3, 8}, 2},
		{[2]uint32{3, most}, [2]uint32{5, 0}, 1},
		{[2]uint32{most, most}, [2]uint32{9, 4}, 5},
		// More came in than were sent, as far as is known.
		{[2]uint32{0, 0}, [2]uint32{0, 1}, most},
		{[2]uint32{7, 7}, [2]uint32{9, 12}, most - 2},
		// A report that is behind, handed in as the one ahead.
		{[2]uint32{20, 17}, [2]uint32{10, 10}, most - 2},
		{[2]uint32{0, 0}, [2]uint32{1 << 31, 0}, 1 << 31},
		{[2]uint32{1 << 31, 0}, [2]uint32{0, 0}, 1 << 31},
	} {
		checkLost(t, pair(x.a[0], x.a[1]), pair(x.b[0], x.b[1]), x.want, true)
	}
}

func TestLostOfManyNumbers(t *testing.T) {
	list := []uint32{0, 1, 2, 255, 256, 65535, 65536, 0x01020304, 0x7fffffff, 0x80000000, 0xfffffffe, 0xffffffff}
	for _, k := range list {
		for _, c := range list {
			for _, l := range list {
				for _, d := range list {
					checkLostModel(t, pair(k, c), pair(l, d))
				}
			}
		}
	}
}

func TestLostOfManyReports(t *testing.T) {
	for seed := range uint32(400) {
		a, b := report(some(seed, count)...), report(some(seed+7777, count)...)
		checkLostModel(t, a, b)
		checkLostModel(t, b, a)
		checkLost(t, a, a, 0, true)
		checkLost(t, a, copied(a), 0, true)
	}
}

// Each of the four numbers, by each bit.
func TestLostOfEachBit(t *testing.T) {
	none := with(0, 0)
	for i := range 32 {
		n := uint32(1) << i
		checkLost(t, none, with(known, n), n, true)
		checkLost(t, none, with(came, n), -n, true)
		checkLost(t, with(known, n), none, -n, true)
		checkLost(t, with(came, n), none, n, true)
	}
}

// All numbers but those at 2 and 5 play no part.
func TestLostGoesByTwoNumbersAlone(t *testing.T) {
	for place := range count {
		if place == known || place == came {
			continue
		}
		for _, n := range edges() {
			a, b := pair(10, 10), pair(20, 17)
			a.Nums[place] = n
			checkLost(t, a, b, 3, true)
			b.Nums[place] = n
			checkLost(t, a, b, 3, true)
			a.Nums[place] = ^n
			checkLost(t, a, b, 3, true)
		}
	}
}

// Nothing but the numbers plays a part, though Put doesn't write such packets.
func TestLostOfAnyPackets(t *testing.T) {
	set := append(aliens(), func(p *api.Packet) { p.Proto = 0 }, func(p *api.Packet) { p.Proto = api.LCP })
	for i, f := range set {
		a, b := pair(10, 10), pair(20, 17)
		f(&a)
		checkLost(t, a, b, 3, true)
		set[(i+1)%len(set)](&b)
		checkLost(t, a, b, 3, true)
		checkLost(t, pair(10, 10), b, 3, true)
		a.Nums = a.Nums[:count-1]
		checkLost(t, a, b, 0, false)
		checkLost(t, b, a, 0, false)
	}
}

func TestLostOfOtherThanTwelveNumbers(t *testing.T) {
	twelve := report(some(1, count)...)
	for _, n := range counts() {
		p := report(some(2, n)...)
		checkLost(t, p, twelve, 0, false)
		checkLost(t, twelve, p, 0, false)
		checkLost(t, p, p, 0, false)
		checkLost(t, p, api.Packet{}, 0, false)
	}
	checkLost(t, api.Packet{}, api.Packet{}, 0, false)
	checkLost(t, twelve, api.Packet{Nums: make([]uint32, 0, count)}, 0, false)
	checkLost(t, report(some(3, 11)...), report(some(3, 13)...), 0, false)
}

// K4 to K6: nothing is changed, kept, or read behind a list's length.

// withRoom gives octets in a memory that has more behind them.
func withRoom(b []byte) []byte {
	return slices.Concat(b, bytes.Repeat([]byte{0xa5}, 60))[:len(b)]
}

// roomy gives the same packet in memory that has more behind each of its lists.
func roomy(p api.Packet) api.Packet {
	p.Nums = slices.Concat(p.Nums, slices.Repeat([]uint32{0xa5a5a5a5}, 20))[:len(p.Nums)]
	p.Opts, p.One, p.Two, p.Data = make([]api.Opt, 0, 3), make([]byte, 0, 9), make([]byte, 0, 9), make([]byte, 0, 60)
	return p
}

// room gives a copy of all that a list's memory holds, room and all.
func room[T any](l []T) []T { return slices.Clone(l[:cap(l)]) }

// spoil overwrites octets, and what lies behind them in their memory.
func spoil(b []byte) {
	b = b[:cap(b)]
	for i := range b {
		b[i] ^= 0xa5
	}
}

// spoilNums overwrites a packet's numbers, and what lies behind them in their memory.
func spoilNums(p api.Packet) {
	nums := p.Nums[:cap(p.Nums)]
	for i := range nums {
		nums[i] ^= 0xa5a5a5a5
	}
}

func TestNoRoomIsReadNorWritten(t *testing.T) {
	for _, p := range packets() {
		in, b := roomy(p), withRoom(written(p))
		nums, octets := room(in.Nums), room(b)
		checkPut(t, in, written(p))
		checkLost(t, in, in, 0, true)
		checkRead(t, b, p)
		// What is missing lies in the room.
		checkShort(t, b[:size-1])
		checkShort(t, b[:0])
		less := in
		less.Nums = in.Nums[:count-1]
		checkPutWrong(t, less, api.ErrRange)
		checkLost(t, in, less, 0, false)
		checkLost(t, less, in, 0, false)
		if !slices.Equal(room(in.Nums), nums) || !bytes.Equal(room(b), octets) {
			t.Errorf("what was handed in of %v was changed", p)
		}
	}
}

func TestAnswersAreNewMemory(t *testing.T) {
	for _, p := range packets() {
		in, octets := copied(p), slices.Concat(written(p), []byte{1, 2, 3})
		before := bytes.Clone(octets)
		b, _ := lqr.Put(in)
		spoil(b)
		got, _ := lqr.Get(octets)
		spoilNums(got)
		if !alike(in, p) || !bytes.Equal(octets, before) {
			t.Errorf("answers of %v share its memory", p)
		}
		checkPut(t, in, written(p))
		checkRead(t, octets, p)
	}
}

func TestNothingIsKept(t *testing.T) {
	for _, p := range packets() {
		in, octets := copied(p), written(p)
		b, _ := lqr.Put(in)
		got, _ := lqr.Get(octets)
		spoilNums(in)
		spoil(octets)
		if !bytes.Equal(b, written(p)) || !alike(got, p) {
			t.Errorf("answers of %v changed with what was handed in", p)
		}
	}
}

// Two answers share no memory, either.
func TestEachAnswerHasItsOwnMemory(t *testing.T) {
	for _, p := range packets() {
		one, _ := lqr.Put(p)
		two, _ := lqr.Put(p)
		spoil(one)
		got, _ := lqr.Get(written(p))
		again, _ := lqr.Get(written(p))
		spoilNums(got)
		if !bytes.Equal(two, written(p)) || !alike(again, p) {
			t.Errorf("two answers of %v share memory", p)
		}
	}
}

func TestNoRoomIsHandedOut(t *testing.T) {
	for _, p := range packets()[:5] {
		b, _ := lqr.Put(roomy(p))
		got, _ := lqr.Get(withRoom(written(p)))
		if bytes.Contains(b[len(b):cap(b)], []byte{0xa5}) || slices.Contains(got.Nums[count:cap(got.Nums)], 0xa5a5a5a5) {
			t.Errorf("answers of %v have room that was handed in", p)
		}
	}
}

// Errors leave nothing behind that a later call could tell.
func TestErrorsChangeNothing(t *testing.T) {
	for i, p := range packets() {
		checkPutWrong(t, report(some(uint32(i), 13)...), api.ErrRange)
		checkPutWrong(t, api.Packet{Proto: proto, Code: 1, Nums: p.Nums}, api.ErrField)
		checkPutWrong(t, api.Packet{Proto: api.LCP, Nums: p.Nums}, api.ErrKind)
		checkShort(t, octets(uint32(i), 47))
		checkLost(t, p, report(some(uint32(i), 11)...), 0, false)
		checkPut(t, p, written(p))
		checkRead(t, written(p), p)
		checkLostModel(t, with(known, 9), p)
	}
}
