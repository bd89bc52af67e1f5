package frag_test

import (
	"bytes"
	"math"
	"slices"
	"testing"

	"marline/api"
	"marline/frag"
)

// both are both kinds of numbers: short ones, and others.
func both() []bool { return []bool{true, false} }

// some gives n octets that look like chance, but are the same in every run.
func some(seed uint32, n int) []byte {
	out := make([]byte, n)
	for i := range out {
		seed = seed*1664525 + 1013904223
		out[i] = byte(seed >> 24)
	}
	return out
}

// mod says how many numbers there are.
func mod(short bool) int {
	if short {
		return 4096
	}
	return 16777216
}

// lead says how many octets stand ahead of a piece's data.
func lead(short bool) int {
	if short {
		return 2
	}
	return 4
}

// numbers are many numbers: small ones, great ones, and those about which an octet
// of what is written of them changes.
func numbers(short bool) []int {
	out := []int{0, 1, 2, 3, 127, 128, 254, 255, 256, 257, 258, 511, 512, 1023, 1024, 2047, 2048, 4094, 4095}
	if short {
		return out
	}
	for n := 4096; n < 1<<24; n *= 2 {
		out = append(out, n-1, n, n+1, n+255, n+256)
	}
	return append(out, 0x010203, 0x030201, 0x0f0f0f, 0x800000, 0xff0000, 0xfffeff, 1<<24-2, 1<<24-1)
}

// strangers are numbers that are none.
func strangers(short bool) []int {
	m := mod(short)
	out := []int{-1, -2, -255, -m, -m - 1, m, m + 1, 2 * m, 2*m - 1, 1 << 24, 1 << 31, 1 << 32, 1<<32 + 1, -1 << 32, math.MaxInt, math.MinInt}
	if short {
		out = append(out, 1<<14, 1<<15, 1<<16, 1<<16+1, 1<<24-1)
	}
	return out
}

// datas are lists of octets, of many lengths.
func datas() [][]byte {
	return [][]byte{nil, {}, {0}, {7}, {0xc0, 1}, {0, 0, 0}, {0x80, 0, 0x40, 0}, some(1, 9), some(2, 255), some(3, 256), some(4, 1500)}
}

// written says in the chapter's words how a piece whose number is one is written.
func written(short bool, p frag.Piece) []byte {
	at := 0
	if p.Begin {
		at += 128
	}
	if p.End {
		at += 64
	}
	n := p.Number
	if short {
		return slices.Concat([]byte{byte(at + n/256), byte(n % 256)}, p.Data)
	}
	return slices.Concat([]byte{byte(at), byte(n / 65536), byte(n / 256 % 256), byte(n % 256)}, p.Data)
}

// read says in the chapter's words what Get answers.
func read(short bool, b []byte) (frag.Piece, api.Errno) {
	if len(b) < lead(short) {
		return frag.Piece{}, api.ErrShort
	}
	p := frag.Piece{Begin: b[0] >= 128, End: b[0]%128 >= 64}
	low := int(b[0] % 64)
	if !short {
		p.Number, p.Data = int(b[1])*65536+int(b[2])*256+int(b[3]), b[4:]
		if low != 0 {
			return frag.Piece{}, api.ErrForm
		}
		return p, api.OK
	}
	if low >= 16 {
		return frag.Piece{}, api.ErrForm
	}
	p.Number, p.Data = low*256+int(b[1]), b[2:]
	return p, api.OK
}

// parts says in the chapter's words how octets are split, if they can be, and which
// number is behind the last one.
func parts(short bool, first, most int, data []byte) ([]frag.Piece, int) {
	out := []frag.Piece{{Begin: true, Number: first}}
	for _, octet := range data {
		last := &out[len(out)-1]
		if len(last.Data) == most {
			out = append(out, frag.Piece{Number: next(short, last.Number)})
			last = &out[len(out)-1]
		}
		last.Data = append(last.Data, octet)
	}
	last := &out[len(out)-1]
	last.End = true
	return out, next(short, last.Number)
}

// next says which number is behind one.
func next(short bool, n int) int {
	if n == mod(short)-1 {
		return 0
	}
	return n + 1
}

// glued says in the chapter's words what Glue answers.
func glued(short bool, l []frag.Piece) ([]byte, api.Errno) {
	if len(l) == 0 {
		return nil, api.ErrNone
	}
	last := len(l) - 1
	wrong := !l[0].Begin || !l[last].End
	for i, p := range l {
		wrong = wrong || i > 0 && p.Begin || i < last && p.End
	}
	if wrong {
		return nil, api.ErrForm
	}
	var out []byte
	for i, p := range l {
		if i == 0 && (p.Number < 0 || p.Number >= mod(short)) || i > 0 && p.Number != next(short, l[i-1].Number) {
			return nil, api.ErrLoss
		}
		out = append(out, p.Data...)
	}
	return out, api.OK
}

// alike tells whether two pieces have the same fields.
func alike(a, b frag.Piece) bool {
	return a.Begin == b.Begin && a.End == b.End && a.Number == b.Number && bytes.Equal(a.Data, b.Data)
}

// few gives at most some 24 octets, so that what fails can be read.
func few(b []byte) []byte { return b[:min(len(b), 24)] }

// brief gives some of the pieces of a list, so that what fails can be read.
func brief(l ...frag.Piece) []frag.Piece {
	l = slices.Clone(l[:min(len(l), 6)])
	for i, p := range l {
		l[i].Data = few(p.Data)
	}
	return l
}

// checkPut holds what Put answers against what is wanted.
func checkPut(t *testing.T, short bool, p frag.Piece, want []byte) {
	t.Helper()
	if b, errno := frag.Put(short, p); errno != api.OK || !bytes.Equal(b, want) {
		t.Errorf("Put(%t, %v) = %d octets, % x.., %d, want %d, % x..", short, brief(p), len(b), few(b), errno, len(want), few(want))
	}
}

// checkPutWrong wants that Put answers ErrRange, and (K3) no octets.
func checkPutWrong(t *testing.T, short bool, p frag.Piece) {
	t.Helper()
	if b, errno := frag.Put(short, p); errno != api.ErrRange || len(b) != 0 {
		t.Errorf("Put(%t, %v) = %d octets, % x.., %d, want none, %d", short, brief(p), len(b), few(b), errno, api.ErrRange)
	}
}

// checkGet holds what Get answers against what is wanted.
func checkGet(t *testing.T, short bool, b []byte, want frag.Piece, code api.Errno) {
	t.Helper()
	if p, errno := frag.Get(short, b); errno != code || !alike(p, want) {
		t.Errorf("Get(%t, %d octets, % x..) = %v, %d, want %v, %d", short, len(b), few(b), brief(p), errno, brief(want), code)
	}
}

// checkRead wants that Get reads octets as the chapter's words say.
func checkRead(t *testing.T, short bool, b []byte) {
	t.Helper()
	want, code := read(short, b)
	checkGet(t, short, b, want, code)
}

// checkSplit wants that Split parts octets as the chapter's words say.
func checkSplit(t *testing.T, short bool, first, most int, data []byte) {
	t.Helper()
	want, behind := parts(short, first, most, data)
	l, n, errno := frag.Split(short, first, most, data)
	if errno != api.OK || n != behind || !slices.EqualFunc(l, want, alike) {
		t.Errorf("Split(%t, %d, %d, %d octets) = %d pieces, %v, %d, %d, want %d, %v, %d", short, first, most, len(data), len(l), brief(l...), n, errno, len(want), brief(want...), behind)
	}
}

// checkSplitWrong wants that Split answers an error, and (K3) nothing else.
func checkSplitWrong(t *testing.T, short bool, first, most int, data []byte, code api.Errno) {
	t.Helper()
	if l, n, errno := frag.Split(short, first, most, data); errno != code || n != 0 || len(l) != 0 {
		t.Errorf("Split(%t, %d, %d, %d octets) = %d pieces, %d, %d, want none, 0, %d", short, first, most, len(data), len(l), n, errno, code)
	}
}

// checkGlue holds what Glue answers against what is wanted.
func checkGlue(t *testing.T, short bool, l []frag.Piece, want []byte, code api.Errno) {
	t.Helper()
	if b, errno := frag.Glue(short, l); errno != code || !bytes.Equal(b, want) {
		t.Errorf("Glue(%t, %d pieces, %v) = %d octets, % x.., %d, want %d, % x.., %d", short, len(l), brief(l...), len(b), few(b), errno, len(want), few(want), code)
	}
}

// P23.1: Mod, Put, Get.

func TestMod(t *testing.T) {
	if n := frag.Mod(true); n != 4096 {
		t.Errorf("there are %d short numbers", n)
	}
	if n := frag.Mod(false); n != 1<<24 {
		t.Errorf("there are %d numbers", n)
	}
}

func TestKnownPieces(t *testing.T) {
	for _, x := range []struct {
		short bool
		p     frag.Piece
		b     []byte
	}{
		{true, frag.Piece{Begin: true, End: true, Number: 258}, []byte{0xc1, 2}},
		{true, frag.Piece{}, []byte{0, 0}},
		{true, frag.Piece{Begin: true, Number: 1, Data: []byte{7, 8}}, []byte{0x80, 1, 7, 8}},
		{true, frag.Piece{End: true, Number: 0xabc, Data: []byte{0}}, []byte{0x4a, 0xbc, 0}},
		{true, frag.Piece{Begin: true, End: true, Number: 4095}, []byte{0xcf, 0xff}},
		{true, frag.Piece{Number: 0xf00, Data: []byte{0xc0, 1}}, []byte{0x0f, 0, 0xc0, 1}},
		{false, frag.Piece{Begin: true, End: true, Number: 258}, []byte{0xc0, 0, 1, 2}},
		{false, frag.Piece{}, []byte{0, 0, 0, 0}},
		{false, frag.Piece{Begin: true, Number: 0x010203, Data: []byte{9}}, []byte{0x80, 1, 2, 3, 9}},
		{false, frag.Piece{End: true, Number: 1<<24 - 1}, []byte{0x40, 255, 255, 255}},
		{false, frag.Piece{Number: 4096, Data: []byte{1, 2}}, []byte{0, 0, 16, 0, 1, 2}},
	} {
		checkPut(t, x.short, x.p, x.b)
		checkGet(t, x.short, x.b, x.p, api.OK)
	}
}

// Each header of a number, and of each number that is short.
func TestEachHeader(t *testing.T) {
	for _, short := range both() {
		list := numbers(short)
		for n := range mod(true) {
			list = append(list, n)
		}
		for _, n := range list {
			for _, begin := range both() {
				for _, end := range both() {
					p := frag.Piece{Begin: begin, End: end, Number: n, Data: some(uint32(n), n%5)}
					checkPut(t, short, p, written(short, p))
					checkGet(t, short, written(short, p), p, api.OK)
				}
			}
		}
	}
}

func TestEachData(t *testing.T) {
	for _, short := range both() {
		for n := range 600 {
			p := frag.Piece{End: n%2 == 0, Number: n, Data: some(uint32(n), n)}
			checkPut(t, short, p, written(short, p))
			checkGet(t, short, written(short, p), p, api.OK)
		}
		for _, data := range datas() {
			p := frag.Piece{Begin: true, Number: 9, Data: data}
			checkPut(t, short, p, written(short, p))
			checkGet(t, short, written(short, p), p, api.OK)
		}
		// No number of octets is too many.
		p := frag.Piece{Number: 1, Data: some(5, 1<<20)}
		checkPut(t, short, p, written(short, p))
		checkGet(t, short, written(short, p), p, api.OK)
	}
}

func TestPutOfNumbersThatAreNone(t *testing.T) {
	for _, short := range both() {
		for _, n := range strangers(short) {
			for _, data := range datas() {
				checkPutWrong(t, short, frag.Piece{Number: n, Data: data})
				checkPutWrong(t, short, frag.Piece{Begin: true, End: true, Number: n, Data: data})
			}
		}
	}
}

// Each number that isn't short any more is one of the others.
func TestPutOfNumbersThatAreNotShort(t *testing.T) {
	for n := mod(true); n < 70000; n++ {
		p := frag.Piece{Number: n}
		checkPutWrong(t, true, p)
		checkPut(t, false, p, written(false, p))
	}
}

func TestGetOfEachShortHeader(t *testing.T) {
	for n := range 1 << 16 {
		checkRead(t, true, []byte{byte(n >> 8), byte(n)})
		checkRead(t, true, []byte{byte(n >> 8), byte(n), 7})
	}
}

func TestGetOfEachFirstOctet(t *testing.T) {
	for n := range 256 {
		for i := range 200 {
			checkRead(t, false, append([]byte{byte(n)}, some(uint32(i), 3+i%7)...))
			checkRead(t, true, append([]byte{byte(n)}, some(uint32(i), 1+i%7)...))
		}
	}
}

func TestGetOfEachBitThatHasNoMeaning(t *testing.T) {
	for _, bit := range []byte{0x10, 0x20, 0x30} {
		for _, first := range []byte{0, 0x40, 0x80, 0xc0, 0x0f, 0xcf} {
			checkGet(t, true, []byte{first | bit, 1, 2, 3}, frag.Piece{}, api.ErrForm)
		}
	}
	for _, bit := range []byte{1, 2, 4, 8, 0x10, 0x20, 0x3f} {
		for _, first := range []byte{0, 0x40, 0x80, 0xc0} {
			checkGet(t, false, []byte{first | bit, 1, 2, 3, 4}, frag.Piece{}, api.ErrForm)
		}
	}
}

// Fewer octets than a header has: whatever bits the first one has.
func TestGetOfTooFewOctets(t *testing.T) {
	for _, short := range both() {
		checkGet(t, short, nil, frag.Piece{}, api.ErrShort)
		checkGet(t, short, []byte{}, frag.Piece{}, api.ErrShort)
		for n := range 256 {
			for size := 1; size < lead(short); size++ {
				b := append([]byte{byte(n)}, some(uint32(n), size-1)...)
				checkGet(t, short, b, frag.Piece{}, api.ErrShort)
			}
		}
	}
}

func TestGetOfAllShortRows(t *testing.T) {
	each := []byte{0, 1, 0x0f, 0x10, 0x20, 0x3f, 0x40, 0x80, 0xc0, 0xff}
	rows := [][]byte{nil}
	from := 0
	for range 5 {
		end := len(rows)
		for _, row := range rows[from:end] {
			for _, octet := range each {
				rows = append(rows, append(bytes.Clone(row), octet))
			}
		}
		from = end
	}
	for _, row := range rows {
		checkRead(t, true, row)
		checkRead(t, false, row)
	}
}

// P4: unlike pieces have unlike octets, and what was read is written as it was.
func TestWhatIsReadIsWritten(t *testing.T) {
	for _, short := range both() {
		for n := range 1 << 16 {
			b := append([]byte{byte(n >> 8), byte(n)}, some(uint32(n), 2+n%4)...)
			if p, errno := frag.Get(short, b); errno == api.OK {
				checkPut(t, short, p, b)
			}
		}
	}
}

// P23.2: Split.

func TestSplitOfKnownOctets(t *testing.T) {
	for _, x := range []struct {
		short             bool
		first, most, next int
		data              []byte
		want              []frag.Piece
	}{
		{true, 4094, 2, 1, []byte{1, 2, 3, 4, 5}, []frag.Piece{{true, false, 4094, []byte{1, 2}}, {false, false, 4095, []byte{3, 4}}, {false, true, 0, []byte{5}}}},
		{false, 4094, 2, 4097, []byte{1, 2, 3, 4, 5}, []frag.Piece{{true, false, 4094, []byte{1, 2}}, {false, false, 4095, []byte{3, 4}}, {false, true, 4096, []byte{5}}}},
		{false, 1<<24 - 1, 1, 1, []byte{7, 8}, []frag.Piece{{true, false, 1<<24 - 1, []byte{7}}, {false, true, 0, []byte{8}}}},
		{true, 0, 2, 2, []byte{1, 2, 3, 4}, []frag.Piece{{true, false, 0, []byte{1, 2}}, {false, true, 1, []byte{3, 4}}}},
		{true, 5, 3, 6, []byte{1, 2, 3}, []frag.Piece{{true, true, 5, []byte{1, 2, 3}}}},
		{true, 4095, 9, 0, []byte{1}, []frag.Piece{{true, true, 4095, []byte{1}}}},
		{true, 4095, 1, 0, nil, []frag.Piece{{true, true, 4095, nil}}},
		{false, 4095, 1, 4096, []byte{}, []frag.Piece{{true, true, 4095, nil}}},
	} {
		l, n, errno := frag.Split(x.short, x.first, x.most, x.data)
		if errno != api.OK || n != x.next || !slices.EqualFunc(l, x.want, alike) {
			t.Errorf("Split(%t, %d, %d, % x) = %v, %d, %d, want %v, %d", x.short, x.first, x.most, x.data, l, n, errno, x.want, x.next)
		}
	}
}

func TestSplitOfEachLength(t *testing.T) {
	for _, short := range both() {
		for size := range 130 {
			data := some(uint32(size), size)
			for most := 1; most <= 135; most++ {
				checkSplit(t, short, mod(short)-5, most, data)
			}
			for _, most := range []int{1000, 1 << 16, 1 << 31, 1 << 32, math.MaxInt - size, math.MaxInt - 1, math.MaxInt} {
				checkSplit(t, short, size, most, data)
			}
		}
	}
}

func TestSplitFromEachNumber(t *testing.T) {
	for _, short := range both() {
		for _, first := range numbers(short) {
			for _, data := range datas() {
				for _, most := range []int{1, 2, 7, 100, 1500} {
					checkSplit(t, short, first, most, data)
				}
			}
		}
	}
	for first := range mod(true) {
		checkSplit(t, true, first, 2, []byte{1, 2, 3, 4, 5})
	}
}

// Half as many pieces as there are numbers, and one more.
func TestSplitOfMostPieces(t *testing.T) {
	half := mod(true) / 2
	for _, first := range []int{0, 1, half, 4095} {
		for _, most := range []int{1, 2, 3, 7, 100} {
			data := some(uint32(most), most*half+1)
			checkSplit(t, true, first, most, data[:most*(half-1)])
			checkSplit(t, true, first, most, data[:most*(half-1)+1])
			checkSplit(t, true, first, most, data[:most*half])
			checkSplitWrong(t, true, first, most, data, api.ErrLong)
			checkSplit(t, true, first, most+1, data)
			checkSplit(t, false, first, most, data)
		}
	}
	checkSplitWrong(t, true, 0, 1, make([]byte, 4096), api.ErrLong)
	checkSplitWrong(t, true, 0, 1, make([]byte, 1<<20), api.ErrLong)
}

func TestSplitOfMostPiecesOfLongNumbers(t *testing.T) {
	half := mod(false) / 2
	data := make([]byte, half+1)
	data[half-1] = 7
	checkSplitWrong(t, false, 0, 1, data, api.ErrLong)
	checkSplitWrong(t, true, 0, 4096, data, api.ErrLong)
	l, n, errno := frag.Split(false, half+2, 1, data[:half])
	if len(l) != half || n != 2 || errno != api.OK {
		t.Fatalf("Split of %d octets = %d pieces, %d, %d", half, len(l), n, errno)
	}
	if last := (frag.Piece{End: true, Number: 1, Data: []byte{7}}); !alike(l[half-1], last) {
		t.Errorf("the last piece is %v", l[half-1])
	}
	checkGlue(t, false, l, data[:half], api.OK)
}

// K2: of several errors the first one that the chapter names.
func TestSplitTellsTheFirstError(t *testing.T) {
	for _, short := range both() {
		for _, data := range [][]byte{nil, {1}, make([]byte, 5000)} {
			for _, most := range []int{0, -1, -2, -5000, math.MinInt} {
				for _, first := range append(strangers(short), 0, 1, 4095) {
					checkSplitWrong(t, short, first, most, data, api.ErrArg)
				}
			}
			for _, first := range strangers(short) {
				for _, most := range []int{1, 2, 5000, math.MaxInt} {
					checkSplitWrong(t, short, first, most, data, api.ErrRange)
				}
			}
		}
	}
	for first := mod(true); first < 70000; first++ {
		checkSplitWrong(t, true, first, 1, nil, api.ErrRange)
		checkSplit(t, false, first, 1, nil)
	}
}

// P23.3: Glue.

// piece gives a piece that has a few octets.
func piece(begin, end bool, n int) frag.Piece {
	return frag.Piece{Begin: begin, End: end, Number: n, Data: some(uint32(n), max(n, -n)%4)}
}

func TestGlueOfKnownPieces(t *testing.T) {
	for _, x := range []struct {
		short bool
		l     []frag.Piece
		want  []byte
		code  api.Errno
	}{
		{true, nil, nil, api.ErrNone},
		{true, []frag.Piece{}, nil, api.ErrNone},
		{true, []frag.Piece{{true, true, 0, []byte{7}}}, []byte{7}, api.OK},
		{true, []frag.Piece{{true, false, 4095, []byte{1, 2}}, {false, false, 0, nil}, {false, true, 1, []byte{3}}}, []byte{1, 2, 3}, api.OK},
		{false, []frag.Piece{{true, false, 4095, []byte{1, 2}}, {false, true, 4096, []byte{3}}}, []byte{1, 2, 3}, api.OK},
		{false, []frag.Piece{{true, false, 1<<24 - 1, nil}, {false, true, 0, nil}}, nil, api.OK},
		{true, []frag.Piece{{true, false, 4095, nil}, {false, true, 4096, nil}}, nil, api.ErrLoss},
		{false, []frag.Piece{{true, false, 4095, nil}, {false, true, 0, nil}}, nil, api.ErrLoss},
		{true, []frag.Piece{{true, true, 4096, []byte{7}}}, nil, api.ErrLoss},
		{true, []frag.Piece{{true, false, -1, []byte{7}}, {false, true, 0, []byte{7}}}, nil, api.ErrLoss},
		{true, []frag.Piece{{false, false, 0, []byte{7}}}, nil, api.ErrForm},
		{true, []frag.Piece{{true, false, 0, []byte{7}}}, nil, api.ErrForm},
		{true, []frag.Piece{{false, true, 0, []byte{7}}}, nil, api.ErrForm},
		{true, []frag.Piece{{false, true, 0, nil}, {true, false, 1, nil}}, nil, api.ErrForm},
		{true, []frag.Piece{{true, true, 0, nil}, {true, true, 1, nil}}, nil, api.ErrForm},
		{true, []frag.Piece{{true, false, 5, nil}, {false, true, 4, nil}}, nil, api.ErrLoss},
		{true, []frag.Piece{{true, false, 5, nil}, {false, true, 5, nil}}, nil, api.ErrLoss},
	} {
		checkGlue(t, x.short, x.l, x.want, x.code)
	}
}

// Each list of up to three pieces of a few numbers, and of all kinds.
func TestGlueOfEachFewPieces(t *testing.T) {
	for _, short := range both() {
		var each []frag.Piece
		for _, n := range []int{-1, 0, 1, 2, mod(short) - 1, mod(short), mod(short) + 1} {
			for _, begin := range both() {
				each = append(each, piece(begin, true, n), piece(begin, false, n))
			}
		}
		lists := [][]frag.Piece{nil}
		from := 0
		for range 3 {
			end := len(lists)
			for _, l := range lists[from:end] {
				for _, p := range each {
					lists = append(lists, append(slices.Clone(l), p))
				}
			}
			from = end
		}
		for _, l := range lists {
			want, code := glued(short, l)
			checkGlue(t, short, l, want, code)
		}
	}
}

// row gives n pieces that can be joined, from a number on.
func row(short bool, first, n int) []frag.Piece {
	var out []frag.Piece
	for i := range n {
		out = append(out, piece(i == 0, i == n-1, (first+i)%mod(short)))
	}
	return out
}

func TestGlueOfManyPieces(t *testing.T) {
	for _, short := range both() {
		for _, n := range []int{1, 2, 3, 10, 255, 2048, 2049, 4096, 4097, 9000} {
			for _, first := range []int{0, 1, mod(short) - 1, mod(short) / 2} {
				l := row(short, first, n)
				want, _ := glued(short, l)
				checkGlue(t, short, l, want, api.OK)
			}
		}
	}
}

// One piece that is wrong, wherever it stands.
func TestGlueOfAWrongPiece(t *testing.T) {
	for _, short := range both() {
		for n := 1; n < 12; n++ {
			for i := range n {
				l := row(short, mod(short)-4, n)
				l[i].Begin = !l[i].Begin
				checkGlue(t, short, l, nil, api.ErrForm)
				l = row(short, mod(short)-4, n)
				l[i].End = !l[i].End
				checkGlue(t, short, l, nil, api.ErrForm)
				for _, wrong := range append(strangers(short), 2000, 2001) {
					l = row(short, mod(short)-4, n)
					l[i].Number = wrong
					want, code := glued(short, l)
					checkGlue(t, short, l, want, code)
				}
				if n > 1 {
					checkGlue(t, short, slices.Delete(row(short, 9, n+1), i+1, i+2), nil, lost(i, n))
				}
			}
		}
	}
}

// lost says what is told of n pieces ahead of which one was lost, or the last one.
func lost(i, n int) api.Errno {
	if i == n-1 {
		return api.ErrForm
	}
	return api.ErrLoss
}

// K2: what begins or ends where it may not is told ahead of a loss, wherever both
// stand.
func TestGlueTellsTheFirstError(t *testing.T) {
	for _, short := range both() {
		for i := range 6 {
			for k := range 6 {
				for _, wrong := range append(strangers(short), 2000) {
					l := row(short, 3, 6)
					l[i].Number = wrong
					l[k].Begin = !l[k].Begin
					checkGlue(t, short, l, nil, api.ErrForm)
					l[k].Begin = !l[k].Begin
					l[k].End = !l[k].End
					checkGlue(t, short, l, nil, api.ErrForm)
				}
			}
		}
	}
}

// What is split, and written, and read, is glued.
func TestWhatIsSplitIsGlued(t *testing.T) {
	for _, short := range both() {
		for _, first := range []int{0, 77, mod(short) - 1, mod(short) - 9} {
			for _, data := range datas() {
				for _, most := range []int{1, 2, 3, 64, 255, 1500} {
					l, n, _ := frag.Split(short, first, most, data)
					for i, p := range l {
						b, _ := frag.Put(short, p)
						l[i], _ = frag.Get(short, b)
					}
					checkGlue(t, short, l, data, api.OK)
					if want := (first + len(l)) % mod(short); n != want {
						t.Errorf("the number behind %d pieces from %d on is %d, want %d", len(l), first, n, want)
					}
				}
			}
		}
	}
}

// P8: pieces of one packet that went by several links are glued in order alone.
func TestPiecesOutOfOrder(t *testing.T) {
	data := some(9, 40)
	for _, short := range both() {
		for n := 2; n < 9; n++ {
			l, _, _ := frag.Split(short, mod(short)-2, 40/n, data)
			for i := range len(l) - 1 {
				bad := slices.Clone(l)
				bad[i], bad[i+1] = bad[i+1], bad[i]
				want, code := glued(short, bad)
				checkGlue(t, short, bad, want, code)
				if code == api.OK {
					t.Errorf("%v may be glued", brief(bad...))
				}
			}
			checkGlue(t, short, l, data, api.OK)
		}
	}
}

// K4 to K6: nothing is changed, kept, or read behind a list's length.

// withRoom gives octets in a memory that has more behind them.
func withRoom(b []byte) []byte {
	return slices.Concat(b, make([]byte, 60), bytes.Repeat([]byte{0xa5}, 60))[:len(b)]
}

// roomy gives the same pieces in memory that has more behind each of its lists.
func roomy(l []frag.Piece) []frag.Piece {
	l = slices.Concat(l, []frag.Piece{{End: true, Number: 7, Data: []byte{0xa5}}, {}})[:len(l)]
	for i, p := range l {
		l[i].Data = withRoom(p.Data)
	}
	return l
}

// whole gives a copy of all that the memory of pieces holds, room and all.
func whole(l []frag.Piece) []frag.Piece {
	l = slices.Clone(l[:cap(l)])
	for i, p := range l {
		l[i].Data = bytes.Clone(p.Data[:cap(p.Data)])
	}
	return l
}

// spoil overwrites octets, and what lies behind them in their memory.
func spoil(b []byte) {
	b = b[:cap(b)]
	for i := range b {
		b[i] ^= 0xa5
	}
}

// spoilAll overwrites pieces, and all that their memory holds.
func spoilAll(l []frag.Piece) {
	l = l[:cap(l)]
	for i := range l {
		spoil(l[i].Data)
		l[i] = frag.Piece{Begin: !l[i].Begin, End: !l[i].End, Number: ^l[i].Number, Data: []byte{0xa5}}
	}
}

func TestNoRoomIsReadNorWritten(t *testing.T) {
	for _, short := range both() {
		for _, data := range datas() {
			in := withRoom(data)
			before := bytes.Clone(in[:cap(in)])
			checkSplit(t, short, 9, 2, in)
			l, _ := parts(short, 9, 2, data)
			list := roomy(l)
			had := whole(list)
			checkGlue(t, short, list, data, api.OK)
			for _, p := range list {
				checkPut(t, short, p, written(short, p))
			}
			b := withRoom(written(short, frag.Piece{Number: 5, Data: data}))
			octets := bytes.Clone(b[:cap(b)])
			for n := range len(b) + 1 {
				checkRead(t, short, b[:n])
			}
			if !bytes.Equal(in[:cap(in)], before) || !bytes.Equal(b[:cap(b)], octets) || !slices.EqualFunc(whole(list), had, alike) {
				t.Errorf("what was handed in of %d octets was changed", len(data))
			}
		}
		// What would end these lies in the room.
		checkGlue(t, short, roomy([]frag.Piece{{Begin: true, Number: 6}}), nil, api.ErrForm)
		checkGlue(t, short, roomy(nil), nil, api.ErrNone)
	}
}

func TestAnswersAreNewMemory(t *testing.T) {
	for _, short := range both() {
		for _, data := range datas() {
			in := bytes.Clone(data)
			for _, most := range []int{1, 7, 3000} {
				l, _, _ := frag.Split(short, 9, most, in)
				spoilAll(l)
			}
			p := frag.Piece{Begin: true, End: true, Number: 5, Data: in}
			octets := written(short, p)
			put, _ := frag.Put(short, p)
			got, _ := frag.Get(short, octets)
			joined, _ := frag.Glue(short, []frag.Piece{p})
			spoil(put)
			spoil(got.Data)
			spoil(joined)
			if !bytes.Equal(in, data) || !bytes.Equal(octets, written(short, p)) {
				t.Errorf("answers of %d octets share their memory", len(data))
			}
			checkSplit(t, short, 9, 7, in)
			checkPut(t, short, p, octets)
		}
	}
}

func TestNothingIsKept(t *testing.T) {
	for _, short := range both() {
		for _, data := range datas() {
			in := bytes.Clone(data)
			list, _ := parts(short, 9, 7, data)
			want, _ := parts(short, 9, 7, data)
			b := written(short, list[0])
			l, _, _ := frag.Split(short, 9, 7, in)
			put, _ := frag.Put(short, list[0])
			got, _ := frag.Get(short, b)
			joined, _ := frag.Glue(short, list)
			spoil(in)
			spoil(b)
			spoilAll(list)
			if !slices.EqualFunc(l, want, alike) || !bytes.Equal(joined, data) {
				t.Errorf("pieces of %d octets changed with what was handed in", len(data))
			}
			if !bytes.Equal(put, written(short, want[0])) || !alike(got, want[0]) {
				t.Errorf("a piece of %d octets changed with what was handed in", len(data))
			}
		}
	}
}

func TestPiecesShareNoMemory(t *testing.T) {
	for _, short := range both() {
		for _, data := range datas() {
			for _, most := range []int{1, 2, 7, 100} {
				want, _ := parts(short, 9, most, data)
				for i := range min(len(want), 20) {
					l, _, _ := frag.Split(short, 9, most, data)
					spoil(l[i].Data)
					if l[i] = want[i]; !slices.EqualFunc(l, want, alike) {
						t.Errorf("of %d octets in pieces of %d the piece %d shares memory with others", len(data), most, i)
					}
				}
			}
		}
	}
}

func TestNoRoomIsHandedOut(t *testing.T) {
	secret := bytes.Repeat([]byte{0xa5}, 60)
	for _, short := range both() {
		for n := range 60 {
			data := slices.Concat(make([]byte, n), secret)[:n]
			p := frag.Piece{Begin: true, End: true, Data: data}
			put, _ := frag.Put(short, p)
			got, _ := frag.Get(short, slices.Concat(written(short, p), secret)[:n+lead(short)])
			joined, _ := frag.Glue(short, []frag.Piece{p})
			out := [][]byte{put, got.Data, joined}
			l, _, _ := frag.Split(short, 0, 7, data)
			for _, x := range l[:cap(l)] {
				out = append(out, x.Data)
			}
			for _, b := range out {
				if bytes.Contains(b[:cap(b)], []byte{0xa5}) {
					t.Errorf("% x has room that was handed in", b)
				}
			}
		}
	}
}

// Errors leave nothing behind that a later call could tell.
func TestErrorsChangeNothing(t *testing.T) {
	for _, short := range both() {
		for _, data := range datas() {
			checkPutWrong(t, short, frag.Piece{Number: -1, Data: data})
			checkGet(t, short, []byte{0x20, 0, 0, 0}, frag.Piece{}, api.ErrForm)
			checkSplitWrong(t, short, 0, 0, data, api.ErrArg)
			checkSplitWrong(t, short, -1, 1, data, api.ErrRange)
			checkGlue(t, short, []frag.Piece{{Data: data}}, nil, api.ErrForm)
			p := frag.Piece{Begin: true, Number: 3, Data: data}
			checkPut(t, short, p, written(short, p))
			checkGet(t, short, written(short, p), p, api.OK)
			checkSplit(t, short, 4095, 3, data)
			l, _ := parts(short, 4095, 3, data)
			checkGlue(t, short, l, data, api.OK)
		}
	}
}
