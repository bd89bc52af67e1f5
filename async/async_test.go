package async_test

import (
	"bytes"
	"reflect"
	"testing"

	"marline/async"
)

// chance gives numbers that look like chance, but are the same in every run.
type chance uint32

func (c *chance) below(n int) int {
	*c = *c*1664525 + 1013904223
	return int(uint64(*c) * uint64(n) >> 32)
}

func (c *chance) octets(n int) []byte {
	out := make([]byte, n)
	for i := range out {
		out[i] = byte(c.below(256))
	}
	return out
}

// stream gives octets of which many mean something.
func (c *chance) stream(n int) []byte {
	out := make([]byte, n)
	for i := range out {
		out[i] = []byte{0x7e, 0x7d, 0x11, 0x31, 0x5e, 0, 0x41, 0xff}[c.below(8)]
	}
	return out
}

// maps are none, all, and some of few or many octets.
func maps() []uint32 {
	return []uint32{0, 0xffffffff, 1 << 0x11, 1, 1 << 31, 0x000a0000, 0x7fffffff, 0xaaaaaaaa, 0xfffdffff}
}

// rows hands each row of the alphabet's octets, up to a length, to a function.
func rows(alphabet []byte, most int, each func([]byte)) {
	list := [][]byte{nil}
	for n := 0; n <= most; n++ {
		var longer [][]byte
		for _, row := range list {
			each(row)
			for _, c := range alphabet {
				longer = append(longer, append(bytes.Clone(row), c))
			}
		}
		list = longer
	}
}

// in halves a map till the octet's bit is the lowest.
func in(m uint32, c byte) bool {
	if c > 31 {
		return false
	}
	for range c {
		m /= 2
	}
	return m%2 == 1
}

// meaning reads a segment's octets by the words of layers 4 and 5: how many are
// left, what they are read as, and whether they are broken off.
func meaning(m uint32, segment []byte) (left int, data []byte, broken bool) {
	var some []byte
	for _, c := range segment {
		if !in(m, c) {
			some = append(some, c)
		}
	}
	left = len(some)
	for len(some) > 0 {
		switch {
		case some[0] != 0x7d:
			data, some = append(data, some[0]), some[1:]
		case len(some) == 1:
			return left, data, true
		default:
			data, some = append(data, some[1]^0x20), some[2:]
		}
	}
	return left, data, false
}

// model is what the chapter says of a whole stream: what its segments tell, and
// what stands behind its last flag.
func model(recv uint32, most int, stream []byte) (told []async.Segment, behind []byte) {
	parts := bytes.Split(stream, []byte{0x7e})
	last := len(parts) - 1
	for _, part := range parts[:last] {
		left, data, broken := meaning(recv, part)
		switch {
		case left == 0:
		case broken:
			told = append(told, async.Segment{Kind: 2})
		case len(data) > most:
			told = append(told, async.Segment{Kind: 4})
		default:
			told = append(told, async.Segment{Kind: 0, Data: data})
		}
	}
	return told, parts[last]
}

// same holds two lists of segments against each other, where no octets are nil.
func same(a, b []async.Segment) bool {
	if len(a) != len(b) {
		return false
	}
	for i := range a {
		if a[i].Kind != b[i].Kind || !bytes.Equal(a[i].Data, b[i].Data) {
			return false
		}
	}
	return true
}

// checkHeld holds Held against what P5.2 says of the octets behind the last flag.
func checkHeld(t *testing.T, d *async.Deframer, recv uint32, most int, behind []byte) {
	t.Helper()
	_, data, broken := meaning(recv, behind)
	held := d.Held()
	// Behind a 7d one more octet is read at the least.
	whole := len(data) <= most && !broken || len(data) < most
	if whole && held != len(data) || held < 0 || held > most {
		t.Errorf("recv %x, most %d, behind the flag % x: Held() = %d, read % x", recv, most, behind, held, data)
	}
}

// check feeds a stream, cut where it is told, and holds all answers against the
// model.
func check(t *testing.T, recv uint32, most int, stream []byte, cuts ...int) {
	t.Helper()
	d := async.New(recv, most)
	var got []async.Segment
	from := 0
	for _, to := range append(cuts, len(stream)) {
		got = append(got, d.Feed(stream[from:to])...)
		want, behind := model(recv, most, stream[:to])
		if !same(got, want) {
			t.Errorf("recv %x, most %d, stream % x cut at %v: %v, want %v", recv, most, stream[:to], cuts, got, want)
			return
		}
		checkHeld(t, d, recv, most, behind)
		from = to
	}
}

// every gives all places of a stream: to cut it into its octets.
func every(n int) []int {
	out := make([]int, n)
	for i := range out {
		out[i] = i
	}
	return out
}

// The numbers of the kinds.

func TestKinds(t *testing.T) {
	if async.Whole != 0 || async.Abort != 2 || async.Long != 4 {
		t.Error(async.Whole, async.Abort, async.Long)
	}
	if s := (async.Segment{2, []byte{1}}); s.Kind != 2 || s.Data[0] != 1 || reflect.TypeOf(s).NumField() != 2 {
		t.Error(s)
	}
}

// P5.1: New, Feed.

func TestFeedOfKnownStreams(t *testing.T) {
	for _, x := range []struct {
		name   string
		recv   uint32
		most   int
		stream []byte
		want   []async.Segment
	}{
		{"the chapter's example", 0, 9, []byte{0x7e, 1, 0x7d, 0x5e, 0x7e}, []async.Segment{{0, []byte{1, 0x7e}}}},
		{"flags alone", 0, 9, []byte{0x7e, 0x7e, 0x7e}, nil},
		{"no octets", 0, 9, nil, nil},
		{"no flag", 0, 9, []byte{1, 2, 3}, nil},
		{"ahead of the first flag", 0, 9, []byte{1, 0x7e}, []async.Segment{{0, []byte{1}}}},
		{"behind the last flag", 0, 9, []byte{0x7e, 1, 0x7e, 2}, []async.Segment{{0, []byte{1}}}},
		{"one flag between", 0, 9, []byte{0x7e, 1, 0x7e, 2, 0x7e}, []async.Segment{{0, []byte{1}}, {0, []byte{2}}}},
		{"broken off", 0, 9, []byte{0x7e, 1, 0x7d, 0x7e, 2, 0x7e}, []async.Segment{{2, nil}, {0, []byte{2}}}},
		{"a 7d alone", 0, 9, []byte{0x7d, 0x7e}, []async.Segment{{2, nil}}},
		{"7d and what it escapes", 0, 9, []byte{0x7d, 0x7d, 0x7e}, []async.Segment{{0, []byte{0x5d}}}},
		{"three times 7d", 0, 9, []byte{0x7d, 0x7d, 0x7d, 0x7e}, []async.Segment{{2, nil}}},
		{"a flag doesn't stand escaped", 0, 9, []byte{0x7d, 0x7e, 0x5e, 0x7e}, []async.Segment{{2, nil}, {0, []byte{0x5e}}}},
		{"octets of the map alone", 3, 9, []byte{0, 1, 0x7e, 0, 0x7e}, nil},
		{"a 7d and octets of the map", 3, 9, []byte{0x7d, 0, 1, 0x7e}, []async.Segment{{2, nil}}},
		{"an octet of the map behind a 7d", 3, 9, []byte{0x7d, 0, 0x21, 0x7e}, []async.Segment{{0, []byte{1}}}},
		{"as many as most", 0, 2, []byte{1, 2, 0x7e}, []async.Segment{{0, []byte{1, 2}}}},
		{"one more than most", 0, 2, []byte{1, 2, 3, 0x7e}, []async.Segment{{4, nil}}},
		{"as many as most, escaped", 0, 2, []byte{0x7d, 0x5e, 0x7d, 0x5d, 0x7e}, []async.Segment{{0, []byte{0x7e, 0x7d}}}},
		{"one more than most, escaped", 0, 2, []byte{1, 2, 0x7d, 0x5d, 0x7e}, []async.Segment{{4, nil}}},
		{"broken off at most", 0, 2, []byte{1, 2, 0x7d, 0x7e}, []async.Segment{{2, nil}}},
		{"broken off behind most", 0, 2, []byte{1, 2, 3, 4, 0x7d, 0x7e}, []async.Segment{{2, nil}}},
		{"escaped behind most", 0, 2, []byte{1, 2, 3, 0x7d, 0x7d, 0x7e}, []async.Segment{{4, nil}}},
		{"octets of the map don't make it long", 1, 2, []byte{0, 1, 0, 0, 2, 0, 0x7e}, []async.Segment{{0, []byte{1, 2}}}},
		{"whole behind long", 0, 1, []byte{1, 2, 0x7e, 3, 0x7e}, []async.Segment{{4, nil}, {0, []byte{3}}}},
		{"long behind long", 0, 1, []byte{1, 2, 0x7e, 3, 4, 0x7e}, []async.Segment{{4, nil}, {4, nil}}},
	} {
		if got := async.New(x.recv, x.most).Feed(x.stream); !same(got, x.want) {
			t.Errorf("%s: % x tells %v, want %v", x.name, x.stream, got, x.want)
		}
	}
}

func TestFeedOfEachOctet(t *testing.T) {
	for _, m := range maps() {
		for c := range 256 {
			for _, stream := range [][]byte{{byte(c), 0x7e}, {0x7d, byte(c), 0x7e}, {0x7d, byte(c), 0x41, 0x7e}, {0x41, byte(c), 0x41, 0x7e}} {
				for most := 1; most < 4; most++ {
					check(t, m, most, stream)
				}
			}
		}
	}
}

func TestFeedOfAllShortStreams(t *testing.T) {
	for _, m := range []uint32{0, 1 << 0x11} {
		for most := 1; most < 4; most++ {
			rows([]byte{0x7e, 0x7d, 0x11, 0x31, 0x41}, 5, func(stream []byte) {
				check(t, m, most, stream)
				check(t, m, most, stream, every(len(stream))...)
			})
		}
	}
}

func TestHowAStreamIsCutPlaysNoPart(t *testing.T) {
	c := chance(1)
	for _, m := range maps() {
		for _, most := range []int{1, 2, 5, 100} {
			for n := range 40 {
				stream := c.stream(n)
				check(t, m, most, stream)
				check(t, m, most, stream, every(n)...)
				for cut := range n {
					check(t, m, most, stream, cut, cut)
				}
			}
			stream := c.octets(3000)
			check(t, m, most, stream)
			var cuts []int
			for at := c.below(50); at < len(stream); at += c.below(50) {
				cuts = append(cuts, at)
			}
			check(t, m, most, stream, cuts...)
		}
	}
}

func TestTheGreatestMost(t *testing.T) {
	const most = 1 << 20
	c := chance(3)
	data := c.octets(most + 1)
	stream := async.Wrap(0, data[:most])
	got := async.New(0, most).Feed(stream)
	if !same(got, []async.Segment{{0, data[:most]}}) {
		t.Errorf("of most octets: %d segments", len(got))
	}
	got = async.New(0, most).Feed(async.Wrap(0, data))
	if !same(got, []async.Segment{{4, nil}}) {
		t.Errorf("of one more: %d segments", len(got))
	}
}

func TestDeframersAreApart(t *testing.T) {
	a, b := async.New(0, 9), async.New(1, 1)
	a.Feed([]byte{1, 0x7d})
	if got := b.Feed([]byte{0, 2, 0x7e}); !same(got, []async.Segment{{0, []byte{2}}}) {
		t.Error(got)
	}
	if got := a.Feed([]byte{0, 2, 0x7e}); !same(got, []async.Segment{{0, []byte{1, 0x20, 2}}}) {
		t.Error(got)
	}
}

// P5.2: Held.

func TestHeldOfKnownStreams(t *testing.T) {
	for _, x := range []struct {
		recv   uint32
		most   int
		stream []byte
		want   int
	}{
		{0, 4, nil, 0},
		{0, 4, []byte{0x7e}, 0},
		{0, 4, []byte{1, 2, 0x7e}, 0},
		{0, 4, []byte{1, 2}, 2},
		{0, 4, []byte{0x7e, 1, 2}, 2},
		{0, 4, []byte{1, 0x7d}, 1},
		{0, 4, []byte{0x7d}, 0},
		{0, 4, []byte{1, 0x7d, 0x5e}, 2},
		{3, 4, []byte{0, 1, 0x41}, 1},
		{3, 4, []byte{0x41, 0x7d, 0}, 1},
		{0, 4, []byte{1, 2, 3, 4}, 4},
		{0, 4, []byte{1, 2, 3, 4, 5, 0x7e, 6}, 1},
		{0, 4, []byte{1, 2, 3, 0x7d, 0x7e}, 0},
	} {
		d := async.New(x.recv, x.most)
		d.Feed(x.stream)
		for range 2 {
			if got := d.Held(); got != x.want {
				t.Errorf("recv %x, most %d, behind % x: Held() = %d, want %d", x.recv, x.most, x.stream, got, x.want)
			}
		}
	}
}

func TestNoMoreIsHeldThanMost(t *testing.T) {
	for _, most := range []int{1, 2, 7, 1000} {
		for _, row := range [][]byte{{1}, {0x7d, 0x5e}, {0x7d}, {1, 0x7d, 0x7d}} {
			d := async.New(0, most)
			for range 2500 {
				d.Feed(row)
				if held := d.Held(); held > most {
					t.Fatalf("of most %d: %d held of rows % x", most, held, row)
				}
			}
		}
	}
}

// P5.3: Wrap.

func TestWrapOfKnownOctets(t *testing.T) {
	for _, x := range []struct {
		send       uint32
		data, want []byte
	}{
		{0, nil, []byte{0x7e, 0x7e}},
		{0, []byte{}, []byte{0x7e, 0x7e}},
		{0, []byte{1}, []byte{0x7e, 1, 0x7e}},
		{2, []byte{1}, []byte{0x7e, 0x7d, 0x21, 0x7e}},
		{0, []byte{0x7e, 0x7d}, []byte{0x7e, 0x7d, 0x5e, 0x7d, 0x5d, 0x7e}},
		{0xffffffff, []byte{0, 31, 32, 0xff}, []byte{0x7e, 0x7d, 0x20, 0x7d, 0x3f, 32, 0xff, 0x7e}},
	} {
		if got := async.Wrap(x.send, x.data); !bytes.Equal(got, x.want) {
			t.Errorf("Wrap(%x, % x) = % x, want % x", x.send, x.data, got, x.want)
		}
	}
}

func TestWrapOfEachOctet(t *testing.T) {
	for _, m := range maps() {
		for n := range 256 {
			c := byte(n)
			want := []byte{0x7e, c, 0x7e}
			if c == 0x7d || c == 0x7e || in(m, c) {
				want = []byte{0x7e, 0x7d, c ^ 0x20, 0x7e}
			}
			if got := async.Wrap(m, []byte{c}); !bytes.Equal(got, want) {
				t.Errorf("Wrap(%x, %02x) = % x, want % x", m, c, got, want)
			}
		}
	}
}

// checkFound feeds what came ahead, and then what Wrap gives: first there is what
// the segment tells that was open, then the data.
func checkFound(t *testing.T, recv, send uint32, most int, ahead, data []byte) {
	t.Helper()
	d := async.New(recv, most)
	d.Feed(ahead)
	_, open := model(recv, most, ahead)
	want, _ := model(recv, most, append(bytes.Clone(open), 0x7e))
	switch {
	case len(data) > most:
		want = append(want, async.Segment{Kind: 4})
	case len(data) > 0:
		want = append(want, async.Segment{Kind: 0, Data: data})
	}
	if got := d.Feed(async.Wrap(send, data)); !same(got, want) {
		t.Errorf("recv %x, send %x, most %d, ahead % x, data % x: %v, want %v", recv, send, most, ahead, data, got, want)
	}
	if d.Held() != 0 {
		t.Errorf("behind Wrap there is %d held", d.Held())
	}
}

func TestWrapIsFoundWhereverTheStreamEnds(t *testing.T) {
	c := chance(5)
	for _, send := range maps() {
		for _, other := range []uint32{0xffffffff, 0, 1 << 0x11, 0x0000ffff} {
			recv := send & other
			for n := range 30 {
				checkFound(t, recv, send, 12, c.stream(n), c.stream(c.below(15)))
				checkFound(t, recv, send, 300, c.octets(n), c.octets(n))
			}
		}
		rows([]byte{0x7e, 0x7d, 0x11, 0x41}, 4, func(ahead []byte) {
			for n := range 4 {
				checkFound(t, send, send, 2, ahead, []byte{0x11, 0x7d, 0x7e}[:n])
			}
		})
	}
}

func TestManyWrapsOneBehindTheOther(t *testing.T) {
	c := chance(7)
	d := async.New(0x000a0000, 50)
	var stream []byte
	var want []async.Segment
	for n := range 200 {
		data := c.octets(1 + n%50)
		want = append(want, async.Segment{Kind: 0, Data: data})
		stream = append(stream, async.Wrap(0x000a0001, data)...)
	}
	if got := d.Feed(stream); !same(got, want) {
		t.Errorf("of 200 there are %d", len(got))
	}
}

// A map that isn't within the other one leaves out what stands unescaped.
func TestWrapByAMapThatIsNotWithin(t *testing.T) {
	got := async.New(3, 9).Feed(async.Wrap(1, []byte{0, 1, 2}))
	if !same(got, []async.Segment{{0, []byte{0, 2}}}) {
		t.Error(got)
	}
}

// K3, K5: what is handed in, and what is answered. K6: the same call answers the
// same.

func TestOnlyAWholeOneHasData(t *testing.T) {
	for _, s := range async.New(0, 2).Feed([]byte{1, 0x7d, 0x7e, 1, 2, 3, 0x7e, 1, 2, 3, 0x7d, 0x7e}) {
		if s.Kind == async.Whole || s.Data != nil {
			t.Error(s)
		}
	}
}

func TestFeedKeepsAndChangesNothingOfAChunk(t *testing.T) {
	d := async.New(1, 9)
	room := []byte{1, 0x7d, 0x7e, 2, 3, 0x7e, 4, 0x7e, 5}
	before := bytes.Clone(room)
	chunk := room[:7]
	got := d.Feed(chunk)
	want := []async.Segment{{Kind: 2}, {0, []byte{2, 3}}}
	if !same(got, want) || !bytes.Equal(room, before) {
		t.Error(got, room)
	}
	clear(chunk)
	if !same(got, want) {
		t.Error("an answer shares a chunk's memory", got)
	}
	if got := d.Feed([]byte{0x7e}); !same(got, []async.Segment{{0, []byte{4}}}) {
		t.Error("a chunk was kept", got)
	}
}

func TestWhatFeedAnswersIsNew(t *testing.T) {
	d := async.New(0, 9)
	first := d.Feed([]byte{1, 2, 0x7e, 3, 4, 0x7e, 5})
	again := d.Feed([]byte{6, 0x7e, 7, 8, 0x7e, 9})
	want := []async.Segment{{0, []byte{5, 6}}, {0, []byte{7, 8}}}
	for i, s := range first {
		if !bytes.Equal(s.Data, []byte{1, 2, 3, 4}[2*i:2*i+2]) {
			t.Error("a later call changed what was answered", first)
		}
		whole := s.Data[:cap(s.Data)]
		for i := range whole {
			whole[i] = 0x55
		}
		if i == 0 && !bytes.Equal(first[1].Data, []byte{3, 4}) {
			t.Error("two lists of an answer share memory", first)
		}
	}
	if !same(again, want) {
		t.Error("two answers share memory", again)
	}
	for _, s := range again {
		whole := s.Data[:cap(s.Data)]
		for i := range whole {
			whole[i] = 0x55
		}
	}
	if got := d.Feed([]byte{10, 0x7e}); !same(got, []async.Segment{{0, []byte{9, 10}}}) {
		t.Error("an answer shares memory with the deframer", got)
	}
}

func TestWrapChangesNothingAndAnswersNewMemory(t *testing.T) {
	room := []byte{1, 0x11, 0x7d, 0x7e, 0x7e, 0x11}
	before := bytes.Clone(room)
	for n := range 4 {
		got := async.Wrap(1<<0x11, room[:n])
		exact := async.Wrap(1<<0x11, bytes.Clone(room[:n]))
		if !bytes.Equal(got, exact) {
			t.Errorf("% x, % x", got, exact)
		}
		whole := got[:cap(got)]
		for i := range whole {
			whole[i] = 0x55
		}
		if !bytes.Equal(room, before) {
			t.Errorf("% x", room)
		}
		if again := async.Wrap(1<<0x11, room[:n]); !bytes.Equal(again, exact) {
			t.Errorf("% x, and again % x", exact, again)
		}
	}
}
