package tlv_test

import (
	"bytes"
	"slices"
	"testing"

	"marline/api"
	"marline/tlv"
)

// some gives n octets that look like chance, but are the same in every run.
func some(seed uint32, n int) []byte {
	out := make([]byte, n)
	for i := range out {
		seed = seed*1664525 + 1013904223
		out[i] = byte(seed >> 24)
	}
	return out
}

// opt gives an option of a type that has n octets of data.
func opt(t byte, n int) api.Opt { return api.Opt{Type: t, Data: some(uint32(t), n)} }

// chance gives a list of n options whose types and lengths look like chance.
func chance(seed uint32, n int) []api.Opt {
	var out []api.Opt
	for i, c := range some(seed, n) {
		size := int(some(seed+uint32(i)+99, 1)[0])
		if size > 253 {
			size = 0
		}
		out = append(out, api.Opt{Type: c, Data: some(seed+uint32(i), size)})
	}
	return out
}

// lists are lists of options that can be written, of many lengths and kinds.
func lists() [][]api.Opt {
	out := [][]api.Opt{
		nil, {}, {{}}, {{}, {}}, {{Type: 255}}, {{Type: 1, Data: []byte{5, 0xdc}}},
		{{Type: 1, Data: []byte{0}}}, {{Type: 1, Data: []byte{2, 2}}}, {{Type: 1}, {Type: 2, Data: []byte{2}}},
		{{Type: 7, Data: []byte{}}, {Type: 8}}, {{Type: 8}, {Type: 7}},
		{opt(3, 252), opt(4, 253)}, {opt(0, 253), {}, opt(255, 253)},
		{{Type: 9, Data: bytes.Repeat([]byte{1}, 253)}, {Type: 9, Data: bytes.Repeat([]byte{255}, 253)}},
	}
	for n := range 25 {
		out = append(out, chance(uint32(n), n))
	}
	return append(out, chance(7, 1000))
}

// small are all lists of up to three options of a few types and data.
func small() [][]api.Opt {
	var each []api.Opt
	for _, t := range []byte{0, 2, 3} {
		for _, data := range [][]byte{nil, {0}, {2}, {3}, {2, 2}, {0, 3}, {3, 2, 0}} {
			each = append(each, api.Opt{Type: t, Data: data})
		}
	}
	out := [][]api.Opt{nil}
	from := 0
	for range 3 {
		end := len(out)
		for _, l := range out[from:end] {
			for _, o := range each {
				out = append(out, append(slices.Clone(l), o))
			}
		}
		from = end
	}
	return out
}

// rows calls f with each row of 0 to most octets of those that are told; it may
// not keep them.
func rows(octets []byte, most int, f func(b []byte)) {
	var grow func(b []byte)
	grow = func(b []byte) {
		f(b)
		if len(b) == most {
			return
		}
		for _, c := range octets {
			grow(append(b, c))
		}
	}
	grow(make([]byte, 0, most))
}

// written says in the chapter's words how options that can be written are.
func written(l []api.Opt) []byte {
	var out []byte
	for _, o := range l {
		one := append([]byte{o.Type, 0}, o.Data...)
		one[1] = byte(len(one))
		out = append(out, one...)
	}
	return out
}

// read says in the chapter's words which options octets are.
func read(b []byte) ([]api.Opt, api.Errno) {
	if len(b) == 0 {
		return nil, api.OK
	}
	if len(b) == 1 {
		return nil, api.ErrShort
	}
	if b[1] == 0 || b[1] == 1 {
		return nil, api.ErrForm
	}
	n := int(b[1]) - 2
	if len(b)-2 < n {
		return nil, api.ErrShort
	}
	more, errno := read(b[2+n:])
	if errno != api.OK {
		return nil, errno
	}
	return append([]api.Opt{{Type: b[0], Data: b[2 : 2+n]}}, more...), api.OK
}

// alike tells whether two lists of options have the same types and data, by no
// call of the program's.
func alike(a, b []api.Opt) bool {
	if len(a) != len(b) {
		return false
	}
	for i := range a {
		if a[i].Type != b[i].Type || string(a[i].Data) != string(b[i].Data) {
			return false
		}
	}
	return true
}

// sought says in the chapter's words which option is the first one of a type.
func sought(l []api.Opt, kind byte) (api.Opt, bool) {
	at := slices.IndexFunc(l, func(o api.Opt) bool { return o.Type == kind })
	if at < 0 {
		return api.Opt{}, false
	}
	return l[at], true
}

// copied gives the same options in memory of their own.
func copied(l []api.Opt) []api.Opt {
	var out []api.Opt
	for _, o := range l {
		out = append(out, api.Opt{Type: o.Type, Data: bytes.Clone(o.Data)})
	}
	return out
}

// checkPut holds what Put and Size answer against what is wanted.
func checkPut(t *testing.T, l []api.Opt, want []byte) {
	t.Helper()
	got, errno := tlv.Put(l)
	if errno != api.OK || !bytes.Equal(got, want) {
		t.Errorf("Put(%v) = % x, %d, want % x", l, got, errno, want)
	}
	if n := tlv.Size(l); n != len(want) {
		t.Errorf("Size(%v) = %d, want %d", l, n, len(want))
	}
}

// checkLong wants that Put finds data that has too many octets.
func checkLong(t *testing.T, l []api.Opt) {
	t.Helper()
	if got, errno := tlv.Put(l); errno != api.ErrLong || len(got) != 0 {
		t.Errorf("Put of %d options = %d octets, %d, want none, %d", len(l), len(got), errno, api.ErrLong)
	}
}

// checkGet holds what Get answers against what is wanted.
func checkGet(t *testing.T, b []byte, want []api.Opt, code api.Errno) {
	t.Helper()
	got, errno := tlv.Get(b)
	if errno != code || !alike(got, want) {
		t.Errorf("Get(% x) = %v, %d, want %v, %d", b, got, errno, want, code)
	}
}

// checkWrong wants that Get answers an error, and no options.
func checkWrong(t *testing.T, b []byte, code api.Errno) {
	t.Helper()
	checkGet(t, b, nil, code)
}

// checkFind holds what Find answers against what is wanted.
func checkFind(t *testing.T, l []api.Opt, kind byte, want api.Opt, is bool) {
	t.Helper()
	got, ok := tlv.Find(l, kind)
	if ok != is || got.Type != want.Type || !bytes.Equal(got.Data, want.Data) {
		t.Errorf("Find(%v, %d) = %v, %t, want %v, %t", l, kind, got, ok, want, is)
	}
}

// checkSame wants that Same answers the same, whichever list comes first.
func checkSame(t *testing.T, a, b []api.Opt, want bool) {
	t.Helper()
	if one, other := tlv.Same(a, b), tlv.Same(b, a); one != want || other != want {
		t.Errorf("Same(%v, %v) = %t, and turned %t, want %t", a, b, one, other, want)
	}
}

// P12.1: Put, Size.

func TestPutOfKnownLists(t *testing.T) {
	for _, x := range []struct {
		l    []api.Opt
		want []byte
	}{
		{nil, nil},
		{[]api.Opt{}, nil},
		{[]api.Opt{{Type: 1, Data: []byte{0x05, 0xdc}}}, []byte{0x01, 0x04, 0x05, 0xdc}},
		{[]api.Opt{{}}, []byte{0x00, 0x02}},
		{[]api.Opt{{Type: 7}}, []byte{0x07, 0x02}},
		{[]api.Opt{{Type: 7, Data: []byte{}}}, []byte{0x07, 0x02}},
		{[]api.Opt{{Type: 255, Data: []byte{0}}}, []byte{0xff, 0x03, 0x00}},
		{[]api.Opt{{Type: 8}, {Type: 7}, {Type: 8}}, []byte{0x08, 0x02, 0x07, 0x02, 0x08, 0x02}},
		{[]api.Opt{{Type: 5, Data: []byte{1, 2, 3, 4}}, {Type: 2}}, []byte{0x05, 0x06, 0x01, 0x02, 0x03, 0x04, 0x02, 0x02}},
	} {
		checkPut(t, x.l, x.want)
	}
}

func TestPutOfEachTypeAndLength(t *testing.T) {
	for kind := range 256 {
		for n := range 254 {
			l := []api.Opt{opt(byte(kind), n)}
			checkPut(t, l, slices.Concat([]byte{byte(kind), byte(n + 2)}, l[0].Data))
		}
	}
}

func TestPutOfManyLists(t *testing.T) {
	for _, l := range lists() {
		checkPut(t, l, written(l))
	}
	for _, l := range small() {
		checkPut(t, l, written(l))
	}
}

func TestPutTellsDataThatIsLong(t *testing.T) {
	for n := 254; n < 1100; n++ {
		checkLong(t, []api.Opt{opt(1, n)})
	}
	for _, n := range []int{65535, 65536, 65789, 65790, 1 << 20} {
		checkLong(t, []api.Opt{opt(0, n)})
	}
}

func TestPutTellsDataThatIsLongWhereverItStands(t *testing.T) {
	for _, n := range []int{254, 255, 256, 257, 509, 510, 512} {
		for at := range 20 {
			l := chance(3, 20)
			checkPut(t, l, written(l))
			l[at] = opt(1, n)
			checkLong(t, l)
		}
	}
	checkLong(t, []api.Opt{opt(1, 254), opt(2, 253), opt(3, 300)})
}

// How long all are together plays no part.
func TestPutOfManyLongOptions(t *testing.T) {
	l := make([]api.Opt, 600)
	for i := range l {
		l[i] = opt(byte(i), 253)
	}
	checkPut(t, l, written(l))
}

func TestSizeOfOptionsThatAreLong(t *testing.T) {
	for _, x := range []struct {
		l    []api.Opt
		want int
	}{
		{[]api.Opt{opt(1, 253)}, 255},
		{[]api.Opt{opt(1, 254)}, 256},
		{[]api.Opt{opt(1, 255)}, 257},
		{[]api.Opt{opt(1, 256), {}}, 260},
		{[]api.Opt{{}, opt(1, 1000), opt(2, 3)}, 1009},
		{[]api.Opt{opt(1, 1<<20), opt(1, 1<<20)}, 1<<21 + 4},
	} {
		if got := tlv.Size(x.l); got != x.want {
			t.Errorf("Size of %d options = %d, want %d", len(x.l), got, x.want)
		}
	}
}

// P12.1: Find.

func TestFindOfKnownLists(t *testing.T) {
	l := []api.Opt{
		{Type: 1, Data: []byte{5, 0xdc}}, {Type: 7}, {Type: 1, Data: []byte{9}},
		{Type: 0, Data: []byte{8}}, {Type: 255, Data: []byte{}}, {Type: 7, Data: []byte{3}},
	}
	checkFind(t, l, 1, l[0], true)
	checkFind(t, l, 7, l[1], true)
	checkFind(t, l, 0, l[3], true)
	checkFind(t, l, 255, l[4], true)
	checkFind(t, l[1:], 1, l[2], true)
	checkFind(t, l[2:], 7, l[5], true)
	for _, kind := range []byte{2, 3, 5, 8, 9, 254} {
		checkFind(t, l, kind, api.Opt{}, false)
	}
	checkFind(t, l[:1], 7, api.Opt{}, false)
	checkFind(t, l[:3], 0, api.Opt{}, false)
}

func TestFindInNone(t *testing.T) {
	for kind := range 256 {
		checkFind(t, nil, byte(kind), api.Opt{}, false)
		checkFind(t, []api.Opt{}, byte(kind), api.Opt{}, false)
	}
}

// The zero type is one as any other.
func TestFindOfTheZeroOption(t *testing.T) {
	checkFind(t, []api.Opt{{Type: 1}, {}}, 0, api.Opt{}, true)
	checkFind(t, []api.Opt{{Type: 1}}, 0, api.Opt{}, false)
}

func TestFindOfEachType(t *testing.T) {
	var l []api.Opt
	for kind := range 256 {
		l = append(l, opt(byte(255-kind), kind))
	}
	for kind := range 256 {
		checkFind(t, l, byte(kind), opt(byte(kind), 255-kind), true)
		less := slices.Concat(l[:255-kind], l[256-kind:])
		checkFind(t, less, byte(kind), api.Opt{}, false)
		twice := slices.Concat(less, []api.Opt{opt(byte(kind), 4), opt(byte(kind), 5)})
		checkFind(t, twice, byte(kind), opt(byte(kind), 4), true)
	}
}

// Find is asked of options, not of their writing.
func TestFindOfAnOptionThatIsLong(t *testing.T) {
	checkFind(t, []api.Opt{opt(2, 300), opt(1, 1000)}, 1, opt(1, 1000), true)
}

// P12.1: Same.

func TestSameOfKnownLists(t *testing.T) {
	for _, x := range []struct {
		a, b []api.Opt
		want bool
	}{
		{nil, nil, true},
		{nil, []api.Opt{}, true},
		{nil, []api.Opt{{}}, false},
		{[]api.Opt{{}}, []api.Opt{{}, {}}, false},
		{[]api.Opt{{}}, []api.Opt{{Data: []byte{}}}, true},
		{[]api.Opt{{}}, []api.Opt{{Data: []byte{0}}}, false},
		{[]api.Opt{{Type: 7}}, []api.Opt{{Type: 7, Data: []byte{}}}, true},
		{[]api.Opt{{Type: 7}}, []api.Opt{{Type: 8}}, false},
		{[]api.Opt{{Type: 7}, {Type: 8}}, []api.Opt{{Type: 8}, {Type: 7}}, false},
		{[]api.Opt{{Type: 7}, {Type: 8}}, []api.Opt{{Type: 7}, {Type: 8}}, true},
		{[]api.Opt{{Type: 7}, {Type: 7}}, []api.Opt{{Type: 7}}, false},
		{[]api.Opt{{Type: 1, Data: []byte{5, 0xdc}}}, []api.Opt{{Type: 1, Data: []byte{5, 0xdc}}}, true},
		{[]api.Opt{{Type: 1, Data: []byte{5, 0xdc}}}, []api.Opt{{Type: 1, Data: []byte{5, 0xdd}}}, false},
		{[]api.Opt{{Type: 1, Data: []byte{5, 0xdc}}}, []api.Opt{{Type: 1, Data: []byte{5}}}, false},
		{[]api.Opt{{Type: 1, Data: []byte{5, 0xdc}}}, []api.Opt{{Type: 1, Data: []byte{0xdc, 5}}}, false},
		{[]api.Opt{{Type: 1, Data: []byte{5}}}, []api.Opt{{Type: 2, Data: []byte{5}}}, false},
		{[]api.Opt{{Type: 1, Data: []byte{1, 2}}, {Type: 1}}, []api.Opt{{Type: 1}, {Type: 1, Data: []byte{1, 2}}}, false},
		{[]api.Opt{{Type: 1, Data: []byte{1}}, {Type: 1, Data: []byte{2}}}, []api.Opt{{Type: 1, Data: []byte{1, 2}}, {Type: 1}}, false},
	} {
		checkSame(t, x.a, x.b, x.want)
	}
}

func TestSameOfEachTwo(t *testing.T) {
	all := append(lists(), small()[:200]...)
	for _, a := range all {
		for _, b := range all {
			checkSame(t, a, copied(b), alike(a, b))
		}
	}
}

func TestSameFindsEachOctetThatDiffers(t *testing.T) {
	a := []api.Opt{opt(1, 3), opt(2, 0), opt(3, 253), opt(4, 300)}
	checkSame(t, a, copied(a), true)
	for i := range a {
		b := copied(a)
		b[i].Type ^= 0x80
		checkSame(t, a, b, false)
		for at := range a[i].Data {
			b = copied(a)
			b[i].Data[at] ^= 1
			checkSame(t, a, b, false)
		}
		checkSame(t, a, slices.Delete(copied(a), i, i+1), false)
	}
}

// P12.2: Get.

func TestGetOfKnownOctets(t *testing.T) {
	for _, x := range []struct {
		b    []byte
		want []api.Opt
	}{
		{nil, nil},
		{[]byte{}, nil},
		{[]byte{1, 2}, []api.Opt{{Type: 1}}},
		{[]byte{0, 2}, []api.Opt{{}}},
		{[]byte{1, 4, 5, 0xdc}, []api.Opt{{Type: 1, Data: []byte{5, 0xdc}}}},
		{[]byte{1, 3, 2, 1, 2}, []api.Opt{{Type: 1, Data: []byte{2}}, {Type: 1}}},
		{[]byte{1, 4, 2, 2, 2, 3, 0}, []api.Opt{{Type: 1, Data: []byte{2, 2}}, {Type: 2, Data: []byte{0}}}},
		{[]byte{255, 2, 255, 2}, []api.Opt{{Type: 255}, {Type: 255}}},
		{[]byte{1, 5, 1, 1, 1}, []api.Opt{{Type: 1, Data: []byte{1, 1, 1}}}},
	} {
		checkGet(t, x.b, x.want, api.OK)
	}
}

func TestGetOfWrongOctets(t *testing.T) {
	for _, x := range []struct {
		b    []byte
		code api.Errno
	}{
		{[]byte{0}, api.ErrShort},
		{[]byte{1}, api.ErrShort},
		{[]byte{255}, api.ErrShort},
		{[]byte{1, 0}, api.ErrForm},
		{[]byte{1, 1}, api.ErrForm},
		{[]byte{1, 0, 1, 2}, api.ErrForm},
		{[]byte{1, 1, 1, 2}, api.ErrForm},
		{[]byte{1, 3}, api.ErrShort},
		{[]byte{1, 255}, api.ErrShort},
		{[]byte{1, 4, 0}, api.ErrShort},
		{[]byte{1, 2, 3}, api.ErrShort},
		{[]byte{1, 3, 0, 2}, api.ErrShort},
		{[]byte{1, 2, 3, 0}, api.ErrForm},
		{[]byte{1, 2, 3, 1}, api.ErrForm},
		{[]byte{1, 2, 3, 3}, api.ErrShort},
	} {
		checkWrong(t, x.b, x.code)
	}
}

func TestGetTellsTheFirstThatIsWrong(t *testing.T) {
	for _, x := range []struct {
		b    []byte
		code api.Errno
	}{
		{[]byte{1, 0, 2, 9}, api.ErrForm},
		{[]byte{1, 1, 2}, api.ErrForm},
		{[]byte{1, 9, 2, 0}, api.ErrShort},
		{[]byte{1, 9, 2, 1, 3}, api.ErrShort},
		{[]byte{1, 2, 2, 0, 3}, api.ErrForm},
		{[]byte{1, 2, 2, 9, 3, 0}, api.ErrShort},
	} {
		checkWrong(t, x.b, x.code)
	}
}

func TestGetOfEachLength(t *testing.T) {
	for length := range 256 {
		for n := range 258 {
			b := slices.Concat([]byte{9, byte(length)}, bytes.Repeat([]byte{2}, n))
			switch left := n - (length - 2); {
			case length < 2:
				checkWrong(t, b, api.ErrForm)
			case left < 0 || left%2 == 1:
				checkWrong(t, b, api.ErrShort)
			default:
				want := append([]api.Opt{{Type: 9, Data: b[2:length]}}, slices.Repeat([]api.Opt{{Type: 2}}, left/2)...)
				checkGet(t, b, want, api.OK)
			}
		}
	}
}

func TestGetOfAllShortRows(t *testing.T) {
	octets := make([]byte, 256)
	for c := range octets {
		octets[c] = byte(c)
	}
	check := func(b []byte) {
		want, errno := read(b)
		checkGet(t, b, want, errno)
	}
	rows(octets, 2, check)
	rows([]byte{0, 1, 2, 3, 4, 5, 6, 255}, 6, check)
	rows([]byte{0, 2, 3}, 10, check)
}

func TestGetOfManyRows(t *testing.T) {
	for n := range 2000 {
		b := some(uint32(n), n%300)
		for i := range b {
			// Lengths that are small let many options be read ahead of a wrong one.
			b[i] %= byte(n%7 + 4)
		}
		want, errno := read(b)
		checkGet(t, b, want, errno)
	}
}

func TestGetOfListsThatAreCutOff(t *testing.T) {
	for _, l := range lists()[:25] {
		b := written(l)
		ends := map[int]int{0: 0}
		for i := range l {
			ends[len(written(l[:i+1]))] = i + 1
		}
		for n := range len(b) + 1 {
			if count, ok := ends[n]; ok {
				checkGet(t, b[:n], l[:count], api.OK)
				continue
			}
			checkWrong(t, b[:n], api.ErrShort)
		}
	}
}

func TestGetOfAWrongOneWhereverItStands(t *testing.T) {
	l := chance(5, 20)
	for at := range l {
		ahead, behind := written(l[:at]), written(l[at:])
		for _, wrong := range [][]byte{{3, 0}, {3, 1}} {
			checkWrong(t, slices.Concat(ahead, wrong), api.ErrForm)
			checkWrong(t, slices.Concat(ahead, wrong, behind), api.ErrForm)
		}
		checkWrong(t, slices.Concat(ahead, []byte{3}), api.ErrShort)
		checkWrong(t, slices.Concat(ahead, []byte{3, 255}, make([]byte, 252)), api.ErrShort)
		checkGet(t, slices.Concat(ahead, []byte{3, 255}, make([]byte, 253), behind),
			slices.Concat(l[:at], []api.Opt{{Type: 3, Data: make([]byte, 253)}}, l[at:]), api.OK)
	}
}

// P12.3: what is written, and read again.

func TestWhatIsWrittenIsRead(t *testing.T) {
	for _, l := range append(lists(), small()...) {
		b, errno := tlv.Put(l)
		if errno != api.OK {
			t.Errorf("Put(%v): %d", l, errno)
		}
		checkGet(t, b, l, api.OK)
		if got, _ := tlv.Get(b); !tlv.Same(got, l) {
			t.Errorf("%v was read as %v", l, got)
		}
	}
}

func TestWhatIsReadHasNoOtherWriting(t *testing.T) {
	rows([]byte{0, 1, 2, 3, 4, 5, 255}, 7, func(b []byte) {
		l, errno := tlv.Get(b)
		if errno != api.OK {
			return
		}
		if again, errno := tlv.Put(l); errno != api.OK || !bytes.Equal(again, b) || tlv.Size(l) != len(b) {
			t.Errorf("% x is read as %v, and written as % x, %d", b, l, again, errno)
		}
	})
}

func TestUnlikeListsDiffer(t *testing.T) {
	seen := map[string][]api.Opt{}
	for _, l := range small() {
		b, _ := tlv.Put(l)
		if other, ok := seen[string(b)]; ok {
			t.Errorf("%v and %v are both written as % x", l, other, b)
		}
		seen[string(b)] = l
	}
}

func TestNoDataIsWrittenAsNone(t *testing.T) {
	a, _ := tlv.Put([]api.Opt{{Type: 7}, {Type: 1, Data: []byte{3}}})
	b, _ := tlv.Put([]api.Opt{{Type: 7, Data: []byte{}}, {Type: 1, Data: []byte{3}}})
	if !bytes.Equal(a, b) {
		t.Errorf("% x isn't % x", a, b)
	}
}

// K5: nothing is changed, kept, or read behind a list's length.

// withRoom gives octets in a memory that has more behind them.
func withRoom(b []byte) []byte {
	return slices.Concat(b, bytes.Repeat([]byte{2}, 20), []byte{0xa5, 0xa5, 0xa5})[:len(b)]
}

// roomy gives the same options in memory that has more behind the list, and
// behind each option's data.
func roomy(l []api.Opt) []api.Opt {
	out := slices.Concat(l, []api.Opt{{Type: 1, Data: make([]byte, 300)}, {Type: 2}, {Type: 77}})
	for i := range l {
		out[i].Data = withRoom(l[i].Data)
	}
	return out[:len(l)]
}

// whole gives a copy of all that the memory of options holds, room and all.
func whole(l []api.Opt) []api.Opt {
	var out []api.Opt
	for _, o := range l[:cap(l)] {
		out = append(out, api.Opt{Type: o.Type, Data: bytes.Clone(o.Data[:cap(o.Data)])})
	}
	return out
}

// spoil overwrites octets, and what lies behind them in their memory.
func spoil(b []byte) {
	b = b[:cap(b)]
	for i := range b {
		b[i] ^= 0xa5
	}
}

// spoilAll overwrites options, and all that their memory holds.
func spoilAll(l []api.Opt) {
	l = l[:cap(l)]
	for i := range l {
		spoil(l[i].Data)
		l[i] = api.Opt{Type: ^l[i].Type, Data: []byte{0xa5}}
	}
}

func TestNoRoomIsReadNorWritten(t *testing.T) {
	for _, l := range lists() {
		in := roomy(l)
		before := whole(in)
		checkPut(t, in, written(l))
		checkSame(t, in, l, true)
		for kind := range 256 {
			want, ok := sought(l, byte(kind))
			checkFind(t, in, byte(kind), want, ok)
		}
		if !alike(whole(in), before) {
			t.Errorf("%v was changed", l)
		}
		b := withRoom(written(l))
		octets := bytes.Clone(b[:cap(b)])
		checkGet(t, b, l, api.OK)
		if len(b) > 0 {
			// What is missing lies in the room.
			want, errno := read(bytes.Clone(b[:len(b)-1]))
			checkGet(t, b[:len(b)-1], want, errno)
		}
		if !bytes.Equal(b[:cap(b)], octets) {
			t.Errorf("% x was changed", b)
		}
	}
	checkWrong(t, withRoom([]byte{1}), api.ErrShort)
	checkWrong(t, withRoom([]byte{1, 3}), api.ErrShort)
}

func TestAnswersAreNewMemory(t *testing.T) {
	for _, l := range lists() {
		in, octets := copied(l), written(l)
		b, _ := tlv.Put(in)
		spoil(b)
		for _, o := range l {
			found, _ := tlv.Find(in, o.Type)
			spoil(found.Data)
		}
		if !alike(in, l) {
			t.Errorf("answers of %v share its memory", l)
		}
		got, _ := tlv.Get(octets)
		spoilAll(got)
		if !bytes.Equal(octets, written(l)) {
			t.Errorf("options that are read share memory with % x", written(l))
		}
		checkPut(t, in, written(l))
		checkGet(t, octets, l, api.OK)
	}
}

func TestNothingIsKept(t *testing.T) {
	for _, l := range lists() {
		in, octets := copied(l), written(l)
		b, _ := tlv.Put(in)
		got, _ := tlv.Get(octets)
		var found, want []api.Opt
		for _, o := range l {
			one, _ := tlv.Find(in, o.Type)
			found = append(found, one)
			first, _ := sought(l, o.Type)
			want = append(want, first)
		}
		spoilAll(in)
		spoil(octets)
		if !bytes.Equal(b, written(l)) || !alike(got, l) || !alike(found, want) {
			t.Errorf("answers of %v changed with what was handed in", l)
		}
	}
}

func TestOptionsThatAreReadShareNoMemory(t *testing.T) {
	for _, l := range lists() {
		b := written(l)
		for i := range min(len(l), 30) {
			got, _ := tlv.Get(b)
			spoil(got[i].Data)
			if !alike(got[:i], l[:i]) || !alike(got[i+1:], l[i+1:]) {
				t.Errorf("of % x the option %d shares memory with others", b, i)
			}
		}
	}
}

func TestNoRoomIsHandedOut(t *testing.T) {
	secret := bytes.Repeat([]byte{0xa5}, 40)
	for n := range 60 {
		data := slices.Concat(make([]byte, n), secret)[:n]
		l := []api.Opt{{Type: 1, Data: data}}
		b, _ := tlv.Put(l)
		found, _ := tlv.Find(l, 1)
		octets := slices.Concat([]byte{1, byte(n + 2)}, data, secret)
		got, _ := tlv.Get(octets[:n+2])
		for _, out := range [][]byte{b, found.Data, got[0].Data} {
			if bytes.Contains(out[len(out):cap(out)], []byte{0xa5}) {
				t.Errorf("% x has room that was handed in", out)
			}
		}
	}
}

// One memory may be the data of several options.
func TestOptionsThatShareMemory(t *testing.T) {
	data := some(4, 20)
	l := []api.Opt{{Type: 1, Data: data}, {Type: 2, Data: data[:5]}, {Type: 3, Data: data[3:]}, {Type: 1, Data: data}}
	checkPut(t, l, written(copied(l)))
	checkSame(t, l, copied(l), true)
	checkFind(t, l, 3, api.Opt{Type: 3, Data: some(4, 20)[3:]}, true)
}
