package tags_test

import (
	"bytes"
	"slices"
	"testing"

	"marline/api"
	"marline/tags"
)

// most is how many octets a tag's data has at most.
const most = 65535

// some gives n octets that look like chance, but are the same in every run.
func some(seed uint32, n int) []byte {
	out := make([]byte, n)
	for i := range out {
		seed = seed*1664525 + 1013904223
		out[i] = byte(seed >> 24)
	}
	return out
}

// tag gives a tag of a type that has n octets of data.
func tag(kind uint16, n int) tags.Tag { return tags.Tag{Type: kind, Data: some(uint32(kind), n)} }

// chance gives a list of n tags whose types and lengths look like chance.
func chance(seed uint32, n int) []tags.Tag {
	var out []tags.Tag
	for i := range n {
		b := some(seed*77+uint32(i), 4)
		kind := uint16(b[0])<<8 | uint16(b[1]) | 1
		out = append(out, tags.Tag{Type: kind, Data: some(uint32(i), int(b[2])%40+int(b[3])%3*256)})
	}
	return out
}

// lists are lists of tags that can be written, of many lengths and kinds.
func lists() [][]tags.Tag {
	out := [][]tags.Tag{
		nil, {}, {{Type: 0x0101}}, {{Type: 0x0101, Data: []byte{}}}, {{Type: 1}, {Type: 1}}, {{Type: 65535}},
		{{Type: 0x0100}}, {{Type: 0x0001}}, {{Type: 0x0103, Data: []byte{7, 8}}, {Type: 0x0103, Data: []byte{9}}},
		{{Type: 0x0102, Data: []byte{0}}}, {{Type: 0x0102, Data: []byte{0, 0, 0, 0}}, {Type: 0x0104}},
		{{Type: 0x0104, Data: []byte{1, 1, 0, 0}}}, {{Type: 0x0101}, {Type: 0x0201, Data: []byte("none")}},
		{{Type: 0x0203, Data: []byte{0, 0, 0, 9}}, {Type: 0x0110, Data: []byte{255, 255, 255, 255}}},
		{tag(3, 255), tag(4, 256), tag(5, 257)}, {tag(1, most)}, {tag(1, most-1), {Type: 2}, tag(3, most)},
	}
	for n := range 25 {
		out = append(out, chance(uint32(n), n))
	}
	return append(out, chance(7, 300))
}

// small are all lists of up to three tags of a few types and data.
func small() [][]tags.Tag {
	var each []tags.Tag
	for _, kind := range []uint16{1, 0x0100, 0x0101} {
		for _, data := range [][]byte{nil, {0}, {1}, {1, 1}, {0, 0, 0, 0}, {1, 1, 0, 0}, {0, 1, 0, 0, 0}} {
			each = append(each, tags.Tag{Type: kind, Data: data})
		}
	}
	out := [][]tags.Tag{nil}
	from := 0
	for range 3 {
		end := len(out)
		for _, l := range out[from:end] {
			for _, x := range each {
				out = append(out, append(slices.Clone(l), x))
			}
		}
		from = end
	}
	return out
}

// sizes are many numbers of octets that data may have: small ones, large ones, and
// those about which the high octet of the length changes.
func sizes() []int {
	var out []int
	for n := range most + 1 {
		if low := n % 256; n < 600 || n > 65400 || (n>>8)%16 == 0 && (low < 2 || low == 255) {
			out = append(out, n)
		}
	}
	return out
}

// tails are octets that may stand behind a list that is ended.
func tails() [][]byte {
	return [][]byte{
		{}, {0}, {1}, {255}, {0, 0, 0}, {0, 0, 0, 0}, {0, 0, 0, 1}, {0, 0, 0, 1, 9}, {1, 1, 0, 0}, {1, 1, 0, 1},
		{1, 1, 255, 255}, {1, 3, 0, 2, 7, 8}, make([]byte, 40), bytes.Repeat([]byte{255}, 300), some(8, 1500),
	}
}

// ended is what ends a list.
func ended() []byte { return []byte{0, 0, 0, 0} }

// rows calls f with each row of 0 to most octets of those that are told; it may
// not keep them.
func rows(octets []byte, most int, f func(b []byte)) {
	var grow func(b []byte)
	grow = func(b []byte) {
		f(b)
		if len(b) == most {
			return
		}
		for _, c := range octets {
			grow(append(b, c))
		}
	}
	grow(make([]byte, 0, most))
}

// two says how a number of 16 bits is written.
func two(n int) []byte { return []byte{byte(n / 256), byte(n % 256)} }

// written says in the chapter's words how tags that can be written are.
func written(l []tags.Tag) []byte {
	var out []byte
	for _, x := range l {
		out = slices.Concat(out, two(int(x.Type)), two(len(x.Data)), x.Data)
	}
	return out
}

// read says in the chapter's words which tags octets are, or begin with, and how
// many octets they have.
func read(b []byte) ([]tags.Tag, int, api.Errno) {
	if len(b) == 0 {
		return nil, 0, api.OK
	}
	if len(b) == 1 || len(b) == 2 || len(b) == 3 {
		return nil, 0, api.ErrShort
	}
	told := 256*int(b[2]) + int(b[3])
	if len(b)-4 < told {
		return nil, 0, api.ErrShort
	}
	kind := 256*uint16(b[0]) + uint16(b[1])
	if kind == 0 && told != 0 {
		return nil, 0, api.ErrForm
	} else if kind == 0 {
		return nil, 4, api.OK
	}
	more, n, errno := read(b[4+told:])
	if errno != api.OK {
		return nil, 0, errno
	}
	return append([]tags.Tag{{Type: kind, Data: b[4 : 4+told]}}, more...), 4 + told + n, api.OK
}

// alike tells whether two lists of tags have the same types and data.
func alike(a, b []tags.Tag) bool {
	return slices.EqualFunc(a, b, func(a, b tags.Tag) bool { return a.Type == b.Type && bytes.Equal(a.Data, b.Data) })
}

// sought says in the chapter's words what the data of the first tag of a type is.
func sought(l []tags.Tag, kind uint16) ([]byte, bool) {
	for len(l) > 0 && l[0].Type != kind {
		l = l[1:]
	}
	if len(l) == 0 {
		return nil, false
	}
	return l[0].Data, true
}

// copied gives the same tags in memory of their own.
func copied(l []tags.Tag) []tags.Tag {
	var out []tags.Tag
	for _, x := range l {
		out = append(out, tags.Tag{Type: x.Type, Data: bytes.Clone(x.Data)})
	}
	return out
}

// brief gives at most some 24 octets, so that what fails can be read.
func brief(b []byte) []byte { return b[:min(len(b), 24)] }

// short gives at most a few tags, of which what fails can be read.
func short(l []tags.Tag) []tags.Tag {
	var out []tags.Tag
	for _, x := range l[:min(len(l), 5)] {
		out = append(out, tags.Tag{Type: x.Type, Data: brief(x.Data)})
	}
	return out
}

// checkPut holds what Put answers against what is wanted.
func checkPut(t *testing.T, l []tags.Tag, want []byte) {
	t.Helper()
	if b, errno := tags.Put(l); errno != api.OK || !bytes.Equal(b, want) {
		t.Errorf("Put(%v..) = %d octets, % x.., %d, want %d, % x..", short(l), len(b), brief(b), errno, len(want), brief(want))
	}
}

// checkPutWrong wants that Put answers an error, and (K3) no octets.
func checkPutWrong(t *testing.T, l []tags.Tag, code api.Errno) {
	t.Helper()
	if b, errno := tags.Put(l); errno != code || len(b) != 0 {
		t.Errorf("Put(%v..) = %d octets, % x.., %d, want none, %d", short(l), len(b), brief(b), errno, code)
	}
}

// checkGet holds what Get answers against what is wanted.
func checkGet(t *testing.T, b []byte, want []tags.Tag, size int, code api.Errno) {
	t.Helper()
	if l, n, errno := tags.Get(b); errno != code || n != size || !alike(l, want) {
		t.Errorf("Get(%d octets, % x..) = %d tags, %v.., %d, %d, want %d, %v.., %d, %d",
			len(b), brief(b), len(l), short(l), n, errno, len(want), short(want), size, code)
	}
}

// checkRead wants that Get reads octets as the chapter's words say.
func checkRead(t *testing.T, b []byte) {
	t.Helper()
	want, size, code := read(b)
	checkGet(t, b, want, size, code)
}

// checkWrong wants that Get answers an error, and (K3) nothing else.
func checkWrong(t *testing.T, b []byte, code api.Errno) {
	t.Helper()
	checkGet(t, b, nil, 0, code)
}

// checkFind holds what Find answers against what is wanted.
func checkFind(t *testing.T, l []tags.Tag, kind uint16, want []byte, is bool) {
	t.Helper()
	if data, ok := tags.Find(l, kind); ok != is || !bytes.Equal(data, want) {
		t.Errorf("Find(%v.., %x) = % x.., %t, want % x.., %t", short(l), kind, brief(data), ok, brief(want), is)
	}
}

// P21.1: Put.

func TestPutOfKnownLists(t *testing.T) {
	for _, x := range []struct {
		l    []tags.Tag
		want []byte
	}{
		{nil, nil},
		{[]tags.Tag{}, nil},
		{[]tags.Tag{{Type: 0x0101}}, []byte{0x01, 0x01, 0x00, 0x00}},
		{[]tags.Tag{{Type: 0x0101, Data: []byte{}}}, []byte{0x01, 0x01, 0x00, 0x00}},
		{[]tags.Tag{{Type: 0x0203, Data: []byte{0}}}, []byte{0x02, 0x03, 0x00, 0x01, 0x00}},
		{[]tags.Tag{{Type: 1}}, []byte{0x00, 0x01, 0x00, 0x00}},
		{[]tags.Tag{{Type: 0x0100, Data: []byte("ab")}}, []byte{0x01, 0x00, 0x00, 0x02, 'a', 'b'}},
		{[]tags.Tag{{Type: 0xffff}, {Type: 0x1234, Data: []byte{5, 6, 7}}, {Type: 0xffff}},
			[]byte{0xff, 0xff, 0x00, 0x00, 0x12, 0x34, 0x00, 0x03, 5, 6, 7, 0xff, 0xff, 0x00, 0x00}},
	} {
		checkPut(t, x.l, x.want)
	}
}

func TestPutOfEachType(t *testing.T) {
	for kind := 1; kind < 65536; kind++ {
		head := two(kind)
		checkPut(t, []tags.Tag{{Type: uint16(kind)}}, []byte{head[0], head[1], 0, 0})
		checkPut(t, []tags.Tag{{Type: uint16(kind), Data: []byte{3, 4}}}, []byte{head[0], head[1], 0, 2, 3, 4})
	}
}

func TestPutOfEachLength(t *testing.T) {
	for _, n := range sizes() {
		x := tag(0x0104, n)
		checkPut(t, []tags.Tag{x}, slices.Concat([]byte{1, 4, byte(n / 256), byte(n % 256)}, x.Data))
	}
}

func TestPutOfManyLists(t *testing.T) {
	for _, l := range append(lists(), small()...) {
		checkPut(t, l, written(l))
	}
}

// How long all are together plays no part.
func TestPutOfManyLongTags(t *testing.T) {
	l := slices.Repeat([]tags.Tag{tag(1, most), tag(2, most)}, 20)
	checkPut(t, l, written(l))
	checkRead(t, written(l))
}

func TestPutTellsTheTypeThatEnds(t *testing.T) {
	for _, data := range [][]byte{nil, {}, {0}, {1, 1, 0, 0}, make([]byte, most)} {
		checkPutWrong(t, []tags.Tag{{Data: data}}, api.ErrKind)
		for at := range 20 {
			l := chance(3, 20)
			checkPut(t, l, written(l))
			l[at] = tags.Tag{Data: data}
			checkPutWrong(t, l, api.ErrKind)
		}
	}
}

func TestPutTellsDataThatIsLong(t *testing.T) {
	for _, n := range []int{65536, 65537, 65538, 65791, 65792, 131071, 131072, 131073, 1 << 24} {
		checkPutWrong(t, []tags.Tag{tag(1, n)}, api.ErrLong)
	}
	for _, n := range []int{65536, 65540} {
		for at := range 20 {
			l := chance(3, 20)
			l[at] = tag(0xffff, n)
			checkPutWrong(t, l, api.ErrLong)
		}
	}
	checkPut(t, []tags.Tag{tag(1, most)}, written([]tags.Tag{tag(1, most)}))
}

// Of a tag that is wrong twice the type is told, of several the first.
func TestPutTellsTheFirstThatIsWrong(t *testing.T) {
	long, none, both, good := tag(1, 65536), tags.Tag{}, tag(0, 65536), tag(5, 3)
	for _, x := range []struct {
		l    []tags.Tag
		code api.Errno
	}{
		{[]tags.Tag{both}, api.ErrKind},
		{[]tags.Tag{long, none}, api.ErrLong},
		{[]tags.Tag{none, long}, api.ErrKind},
		{[]tags.Tag{long, both}, api.ErrLong},
		{[]tags.Tag{both, long}, api.ErrKind},
		{[]tags.Tag{good, long, good, none}, api.ErrLong},
		{[]tags.Tag{good, none, good, long}, api.ErrKind},
	} {
		checkPutWrong(t, x.l, x.code)
	}
}

// P21.2: Get.

func TestGetOfKnownOctets(t *testing.T) {
	for _, x := range []struct {
		b    []byte
		want []tags.Tag
		size int
	}{
		{nil, nil, 0},
		{[]byte{}, nil, 0},
		{[]byte{1, 1, 0, 0}, []tags.Tag{{Type: 0x0101}}, 4},
		{[]byte{0, 1, 0, 0}, []tags.Tag{{Type: 1}}, 4},
		{[]byte{1, 0, 0, 0}, []tags.Tag{{Type: 0x0100}}, 4},
		{[]byte{1, 3, 0, 2, 7, 8}, []tags.Tag{{Type: 0x0103, Data: []byte{7, 8}}}, 6},
		{[]byte{255, 255, 0, 1, 0, 1, 2, 0, 0}, []tags.Tag{{Type: 0xffff, Data: []byte{0}}, {Type: 0x0102}}, 9},
		{[]byte{1, 4, 0, 4, 0, 0, 0, 0}, []tags.Tag{{Type: 0x0104, Data: []byte{0, 0, 0, 0}}}, 8},
		{[]byte{0, 0, 0, 0}, nil, 4},
		{[]byte{0, 0, 0, 0, 0, 0, 0, 0}, nil, 4},
		{[]byte{0, 0, 0, 0, 1, 1, 0, 0}, nil, 4},
		{[]byte{1, 1, 0, 0, 0, 0, 0, 0}, []tags.Tag{{Type: 0x0101}}, 8},
		{[]byte{1, 1, 0, 1, 9, 0, 0, 0, 0, 1, 1, 0, 0}, []tags.Tag{{Type: 0x0101, Data: []byte{9}}}, 9},
	} {
		checkGet(t, x.b, x.want, x.size, api.OK)
	}
}

func TestGetOfWrongOctets(t *testing.T) {
	for _, x := range []struct {
		b    []byte
		code api.Errno
	}{
		{[]byte{0}, api.ErrShort},
		{[]byte{1}, api.ErrShort},
		{[]byte{0, 0}, api.ErrShort},
		{[]byte{1, 1}, api.ErrShort},
		{[]byte{0, 0, 0}, api.ErrShort},
		{[]byte{1, 1, 0}, api.ErrShort},
		{[]byte{1, 1, 0, 1}, api.ErrShort},
		{[]byte{1, 1, 1, 0, 5}, api.ErrShort},
		{[]byte{1, 1, 255, 255, 0, 0, 0, 0}, api.ErrShort},
		{[]byte{0, 0, 0, 1}, api.ErrShort},
		{[]byte{0, 0, 0, 2, 9}, api.ErrShort},
		{[]byte{0, 0, 1, 0, 9, 9}, api.ErrShort},
		{[]byte{0, 0, 0, 1, 9}, api.ErrForm},
		{[]byte{0, 0, 0, 1, 0, 0, 0, 0, 0}, api.ErrForm},
		{[]byte{0, 0, 0, 4, 0, 0, 0, 0}, api.ErrForm},
		{[]byte{1, 1, 0, 0, 0}, api.ErrShort},
		{[]byte{1, 1, 0, 0, 0, 0, 0}, api.ErrShort},
		{[]byte{1, 1, 0, 0, 0, 0, 0, 1}, api.ErrShort},
		{[]byte{1, 1, 0, 0, 0, 0, 0, 1, 7}, api.ErrForm},
		{[]byte{1, 1, 0, 0, 1, 3, 0, 2, 7}, api.ErrShort},
	} {
		checkWrong(t, x.b, x.code)
	}
}

func TestGetTellsTheFirstThatIsWrong(t *testing.T) {
	for _, x := range []struct {
		b    []byte
		code api.Errno
	}{
		{[]byte{0, 0, 0, 1, 5, 1, 1, 0}, api.ErrForm},
		{[]byte{0, 0, 0, 1, 5, 1, 1, 0, 9}, api.ErrForm},
		{[]byte{1, 1, 0, 0, 0, 0, 0, 1, 5, 1}, api.ErrForm},
		{[]byte{1, 1, 0, 9, 0, 0, 0, 1, 5}, api.ErrShort},
		{[]byte{1, 1, 0, 9, 0, 0, 0, 0}, api.ErrShort},
		{[]byte{0, 0, 0, 9, 0, 0, 0, 1, 5}, api.ErrShort},
	} {
		checkWrong(t, x.b, x.code)
	}
}

func TestGetOfEachType(t *testing.T) {
	for kind := 1; kind < 65536; kind++ {
		x := tags.Tag{Type: uint16(kind), Data: []byte{byte(kind), 9}}
		b := slices.Concat(two(kind), []byte{0, 2, byte(kind), 9})
		checkGet(t, b, []tags.Tag{x}, 6, api.OK)
		checkGet(t, append(b, 0, 0, 0, 0, 1), []tags.Tag{x}, 10, api.OK)
		checkWrong(t, b[:5], api.ErrShort)
	}
}

// Each length that is told, with as many octets, with fewer, and with more.
func TestGetOfEachLength(t *testing.T) {
	for _, n := range sizes() {
		x := tag(0x0104, n)
		b := slices.Concat([]byte{1, 4, byte(n / 256), byte(n % 256)}, x.Data)
		checkGet(t, b, []tags.Tag{x}, n+4, api.OK)
		checkGet(t, slices.Concat(b, []byte{2, 3, 0, 0}), []tags.Tag{x, {Type: 0x0203}}, n+8, api.OK)
		checkGet(t, slices.Concat(b, ended(), []byte{9}), []tags.Tag{x}, n+8, api.OK)
		for _, less := range []int{1, 2, 3, 256, n} {
			if less > 0 && less <= n {
				checkWrong(t, b[:len(b)-less], api.ErrShort)
			}
		}
		for _, more := range []int{1, 2, 3} {
			checkWrong(t, slices.Concat(b, make([]byte, more)), api.ErrShort)
		}
	}
}

// A tag of the type 0 that has data is told as such only if all of it is there.
func TestGetOfEachLengthOfTheTypeThatEnds(t *testing.T) {
	for _, n := range sizes()[1:] {
		b := slices.Concat([]byte{0, 0, byte(n / 256), byte(n % 256)}, make([]byte, n))
		checkWrong(t, b, api.ErrForm)
		checkWrong(t, b[:len(b)-1], api.ErrShort)
		checkWrong(t, b[:4], api.ErrShort)
		checkWrong(t, append(b, 1), api.ErrForm)
	}
}

func TestGetOfAllShortRows(t *testing.T) {
	octets := make([]byte, 256)
	for c := range octets {
		octets[c] = byte(c)
	}
	check := func(b []byte) { checkRead(t, b) }
	rows(octets, 2, check)
	rows([]byte{0, 1, 2, 4, 255}, 7, check)
	rows([]byte{0, 1}, 16, check)
}

func TestGetOfManyRows(t *testing.T) {
	for n := range 3000 {
		b := some(uint32(n), n%300)
		for i := range b {
			// Octets that are mostly 0 or small let many tags be read ahead of a wrong one.
			if b[i] %= byte(n%7 + 2); i%4 == 2 {
				b[i] = 0
			}
		}
		checkRead(t, b)
	}
}

func TestGetOfListsThatAreCutOff(t *testing.T) {
	for _, l := range lists()[:25] {
		b := slices.Concat(written(l), ended())
		ends := map[int]int{0: 0, len(b): len(l)}
		for i := range l {
			ends[len(written(l[:i+1]))] = i + 1
		}
		for n := range len(b) + 1 {
			if len(b) > 10000 && n > 600 && n%997 != 0 && n < len(b)-600 {
				continue
			}
			if count, ok := ends[n]; ok {
				checkGet(t, b[:n], l[:count], n, api.OK)
				continue
			}
			checkWrong(t, b[:n], api.ErrShort)
		}
	}
}

func TestWhatStandsBehindTheEndCountsForNothing(t *testing.T) {
	for _, l := range append(lists(), small()...) {
		b := written(l)
		checkGet(t, b, l, len(b), api.OK)
		for _, tail := range tails() {
			checkGet(t, slices.Concat(b, ended(), tail), l, len(b)+4, api.OK)
		}
	}
}

func TestGetOfTheEndWhereverItStands(t *testing.T) {
	l := chance(5, 20)
	for at := range len(l) + 1 {
		ahead, behind := written(l[:at]), written(l[at:])
		checkGet(t, slices.Concat(ahead, ended(), behind), l[:at], len(ahead)+4, api.OK)
		checkWrong(t, slices.Concat(ahead, []byte{0, 0, 0, 3, 1, 2, 3}, behind), api.ErrForm)
		checkWrong(t, slices.Concat(ahead, []byte{0, 0, 255, 255}, behind), api.ErrShort)
		checkWrong(t, slices.Concat(ahead, []byte{9, 9, 255, 255}, behind), api.ErrShort)
		checkWrong(t, slices.Concat(ahead, []byte{9, 9, 0}), api.ErrShort)
	}
}

// What is written, and read again.

func TestWhatIsWrittenIsRead(t *testing.T) {
	for _, l := range append(lists(), small()...) {
		b, errno := tags.Put(l)
		if errno != api.OK {
			t.Errorf("Put(%v..): %d", short(l), errno)
		}
		checkGet(t, b, l, len(b), api.OK)
	}
}

func TestWhatIsReadIsWritten(t *testing.T) {
	rows([]byte{0, 1, 2}, 11, func(b []byte) {
		l, n, errno := tags.Get(b)
		if errno != api.OK {
			return
		}
		again, errno := tags.Put(l)
		size := len(again)
		if errno != api.OK || !bytes.Equal(again, b[:size]) || n != size && !bytes.Equal(b[size:n], ended()) || n == size && n != len(b) {
			t.Errorf("% x is read as %v, %d, and written as % x, %d", b, l, n, again, errno)
		}
	})
}

func TestUnlikeListsDiffer(t *testing.T) {
	seen := map[string][]tags.Tag{}
	for _, l := range small() {
		b, _ := tags.Put(l)
		if other, ok := seen[string(b)]; ok {
			t.Errorf("%v and %v are both written as % x", l, other, b)
		}
		seen[string(b)] = l
	}
}

// P21.3: Find.

func TestFindOfKnownLists(t *testing.T) {
	l := []tags.Tag{
		{Type: 0x0101}, {Type: 0x0103, Data: []byte{7, 8}}, {Type: 0x0103, Data: []byte{9}},
		{Type: 0x0301, Data: []byte{1}}, {Type: 0x0101, Data: []byte{2}}, {Type: 0xffff, Data: []byte{}},
	}
	checkFind(t, l, 0x0101, nil, true)
	checkFind(t, l, 0x0103, []byte{7, 8}, true)
	checkFind(t, l, 0x0301, []byte{1}, true)
	checkFind(t, l, 0xffff, nil, true)
	checkFind(t, l[1:], 0x0101, []byte{2}, true)
	checkFind(t, l[2:], 0x0103, []byte{9}, true)
	for _, kind := range []uint16{0, 1, 3, 0x0001, 0x0100, 0x0102, 0x0104, 0x0300, 0x00ff, 0xff00, 0xfffe} {
		checkFind(t, l, kind, nil, false)
	}
	checkFind(t, l[:1], 0x0103, nil, false)
	checkFind(t, l[3:], 0x0103, nil, false)
}

func TestFindInNone(t *testing.T) {
	for kind := range 65536 {
		checkFind(t, nil, uint16(kind), nil, false)
		checkFind(t, []tags.Tag{}, uint16(kind), nil, false)
	}
}

func TestFindOfEachType(t *testing.T) {
	for kind := range 65536 {
		x := tags.Tag{Type: uint16(kind), Data: two(kind)}
		l := []tags.Tag{{Type: x.Type ^ 1}, {Type: x.Type ^ 0x8000, Data: []byte{1}}, x, {Type: x.Type, Data: []byte{2}}}
		checkFind(t, l, x.Type, x.Data, true)
		checkFind(t, l[:2], x.Type, nil, false)
		checkFind(t, l[3:], x.Type, []byte{2}, true)
	}
}

func TestFindInManyLists(t *testing.T) {
	for _, l := range append(lists(), small()...) {
		for _, x := range append(slices.Clone(l), tags.Tag{}, tags.Tag{Type: 0x0102}, tags.Tag{Type: 1}) {
			want, ok := sought(l, x.Type)
			checkFind(t, l, x.Type, want, ok)
		}
	}
}

// Find is asked of tags, not of their writing: some of these can't be written.
func TestFindInListsThatCannotBeWritten(t *testing.T) {
	l := []tags.Tag{{Type: 0, Data: []byte{3}}, tag(2, 65536), tag(1, 70000), {Type: 0}}
	checkFind(t, l, 0, []byte{3}, true)
	checkFind(t, l[1:], 0, nil, true)
	checkFind(t, l[1:3], 0, nil, false)
	checkFind(t, l, 1, some(1, 70000), true)
	checkFind(t, l, 2, some(2, 65536), true)
}

// P21.3: Name.

func TestNameOfEachType(t *testing.T) {
	known := map[uint16]string{
		257: "service", 258: "name", 259: "unique", 260: "cookie", 261: "vendor",
		272: "relay", 513: "no-service", 514: "no-system", 515: "error",
	}
	for kind := range 65536 {
		if got := tags.Name(uint16(kind)); got != known[uint16(kind)] {
			t.Errorf("Name(%x) = %q, want %q", kind, got, known[uint16(kind)])
		}
	}
}

// K5, K6: nothing is changed, kept, or read behind a list's length.

// withRoom gives octets in a memory that has more behind them.
func withRoom(b []byte) []byte {
	return slices.Concat(b, make([]byte, 20), bytes.Repeat([]byte{0xa5}, 40))[:len(b)]
}

// roomy gives the same tags in memory that has more behind the list, and behind
// each tag's data; what lies there may not be.
func roomy(l []tags.Tag) []tags.Tag {
	out := slices.Concat(l, []tags.Tag{{Type: 0x0103, Data: []byte{0xa5}}, {}, {Type: 7, Data: make([]byte, 65536)}})
	for i := range l {
		out[i].Data = withRoom(l[i].Data)
	}
	return out[:len(l)]
}

// whole gives a copy of all that the memory of tags holds, room and all.
func whole(l []tags.Tag) []tags.Tag {
	var out []tags.Tag
	for _, x := range l[:cap(l)] {
		out = append(out, tags.Tag{Type: x.Type, Data: bytes.Clone(x.Data[:cap(x.Data)])})
	}
	return out
}

// spoil overwrites octets, and what lies behind them in their memory.
func spoil(b []byte) {
	b = b[:cap(b)]
	for i := range b {
		b[i] ^= 0xa5
	}
}

// spoilAll overwrites tags, and all that their memory holds.
func spoilAll(l []tags.Tag) {
	l = l[:cap(l)]
	for i := range l {
		spoil(l[i].Data)
		l[i] = tags.Tag{Type: ^l[i].Type, Data: []byte{0xa5}}
	}
}

func TestNoRoomIsReadNorWritten(t *testing.T) {
	for _, l := range lists() {
		in := roomy(l)
		before := whole(in)
		checkPut(t, in, written(l))
		for _, kind := range []uint16{0, 1, 7, 0x0101, 0x0103} {
			want, ok := sought(l, kind)
			checkFind(t, in, kind, want, ok)
		}
		if !alike(whole(in), before) {
			t.Errorf("%v was changed", short(l))
		}
		b := withRoom(written(l))
		octets := bytes.Clone(b[:cap(b)])
		checkGet(t, b, l, len(b), api.OK)
		if n := len(b); n > 0 {
			// What is missing lies in the room.
			want, size, errno := read(bytes.Clone(b[:n-1]))
			checkGet(t, b[:n-1], want, size, errno)
		}
		if !bytes.Equal(b[:cap(b)], octets) {
			t.Errorf("% x.. was changed", brief(b))
		}
	}
	for n := 1; n < 4; n++ {
		checkWrong(t, withRoom([]byte{1, 1, 0, 0})[:n], api.ErrShort)
		checkWrong(t, withRoom(ended())[:n], api.ErrShort)
	}
	checkWrong(t, withRoom([]byte{1, 1, 0, 1}), api.ErrShort)
	checkWrong(t, withRoom([]byte{0, 0, 0, 1}), api.ErrShort)
}

func TestAnswersAreNewMemory(t *testing.T) {
	for _, l := range lists() {
		in, octets := copied(l), written(l)
		b, _ := tags.Put(in)
		spoil(b)
		for _, x := range l {
			data, _ := tags.Find(in, x.Type)
			spoil(data)
		}
		got, _, _ := tags.Get(octets)
		spoilAll(got)
		if !alike(in, l) || !bytes.Equal(octets, written(l)) {
			t.Errorf("answers of %v.. share its memory", short(l))
		}
		checkPut(t, in, written(l))
		checkGet(t, octets, l, len(octets), api.OK)
	}
}

func TestNothingIsKept(t *testing.T) {
	for _, l := range lists() {
		in, octets := copied(l), written(l)
		b, _ := tags.Put(in)
		got, _, _ := tags.Get(octets)
		var found, want [][]byte
		for _, x := range l {
			data, _ := tags.Find(in, x.Type)
			first, _ := sought(l, x.Type)
			found, want = append(found, data), append(want, first)
		}
		spoilAll(in)
		spoil(octets)
		if !bytes.Equal(b, written(l)) || !alike(got, l) || !slices.EqualFunc(found, want, bytes.Equal) {
			t.Errorf("answers of %v.. changed with what was handed in", short(l))
		}
	}
}

func TestTagsThatAreReadShareNoMemory(t *testing.T) {
	for _, l := range lists() {
		b := written(l)
		for i := range min(len(l), 30) {
			got, _, _ := tags.Get(b)
			spoil(got[i].Data)
			if !alike(got[:i], l[:i]) || !alike(got[i+1:], l[i+1:]) {
				t.Errorf("of % x.. the tag %d shares memory with others", brief(b), i)
			}
		}
	}
}

func TestNoRoomIsHandedOut(t *testing.T) {
	secret := bytes.Repeat([]byte{0xa5}, 40)
	for n := range 60 {
		data := slices.Concat(make([]byte, n), secret)[:n]
		l := []tags.Tag{{Type: 1, Data: data}}
		b, _ := tags.Put(l)
		found, _ := tags.Find(l, 1)
		octets := slices.Concat([]byte{0, 1, 0, byte(n)}, data, secret)
		got, _, _ := tags.Get(octets[:n+4])
		for _, out := range [][]byte{b, found, got[0].Data} {
			if bytes.Contains(out[len(out):cap(out)], []byte{0xa5}) {
				t.Errorf("% x has room that was handed in", out)
			}
		}
	}
}

// One memory may be the data of several tags.
func TestTagsThatShareMemory(t *testing.T) {
	data := some(4, 20)
	l := []tags.Tag{{Type: 1, Data: data}, {Type: 2, Data: data[:5]}, {Type: 3, Data: data[3:]}, {Type: 1, Data: data}}
	checkPut(t, l, written(copied(l)))
	checkFind(t, l, 3, some(4, 20)[3:], true)
}

// Errors leave nothing behind that a later call could tell.
func TestErrorsChangeNothing(t *testing.T) {
	good := []tags.Tag{{Type: 0x0101}, tag(0x0103, 9)}
	for range 3 {
		checkPutWrong(t, []tags.Tag{tag(1, 65536), {}}, api.ErrLong)
		checkPutWrong(t, []tags.Tag{{}}, api.ErrKind)
		checkWrong(t, []byte{1, 1, 0, 0, 0, 0, 0, 1}, api.ErrShort)
		checkWrong(t, []byte{1, 1, 0, 0, 0, 0, 0, 1, 2}, api.ErrForm)
		checkPut(t, good, written(good))
		checkGet(t, written(good), good, 17, api.OK)
		checkFind(t, good, 0x0103, good[1].Data, true)
		if got := tags.Name(0x0110); got != "relay" {
			t.Errorf("Name(110) = %q", got)
		}
	}
}
