package sync_test

import (
	"bytes"
	"reflect"
	"runtime"
	"strconv"
	"strings"
	"testing"

	"marline/api"
	"marline/bits"
	"marline/sync"
	"marline/zero"
)

// chance gives numbers that look like chance, but are the same in every run.
type chance uint32

func (c *chance) below(n int) int {
	*c = *c*1664525 + 1013904223
	return int(uint64(*c) * uint64(n) >> 32)
}

// octets gives octets of which many have rows of 1s that go on in the next one.
func (c *chance) octets(n int) []byte {
	out := make([]byte, n)
	for i := range out {
		out[i] = byte(c.below(256))
		if c.below(2) == 0 {
			out[i] = []byte{0xff, 0x7e, 0x1f, 0xf8, 0x3e, 0x7f, 0, 0xfe}[c.below(8)]
		}
	}
	return out
}

// stream gives a text of n pieces that mean something.
func (c *chance) stream(n int) string {
	var out strings.Builder
	for range n {
		switch c.below(10) {
		case 0, 1, 2:
			out.WriteString(flag)
		case 3:
			out.WriteString("1111110")
		case 4:
			out.WriteString("01111110"[c.below(8):])
		case 5:
			out.WriteString(strings.Repeat("1", c.below(10)))
		case 6:
			out.WriteString(strings.Repeat("0", c.below(10)))
		default:
			out.WriteString(stuffed(plain(c.octets(c.below(4)))))
		}
	}
	return out.String()
}

// dirty gives the same bits, as bytes of any kind.
func (c *chance) dirty(clean []byte) []byte {
	out := make([]byte, len(clean))
	for i, b := range clean {
		out[i] = byte(c.below(128))*2 + b
	}
	return out
}

// Bits are told as a text of 0s and 1s, of which blanks count for nothing.

const flag = "01111110"

func row(s string) []byte {
	out := []byte(strings.ReplaceAll(s, " ", ""))
	for i := range out {
		out[i] -= '0'
	}
	return out
}

func text(list []byte) string {
	var out strings.Builder
	for _, b := range list {
		out.WriteByte('0' + b)
	}
	return out.String()
}

// plain gives octets' bits, and whole the octet of eight bits.
func plain(octets []byte) string {
	var out strings.Builder
	for _, o := range octets {
		for range 8 {
			out.WriteByte('0' + o%2)
			o /= 2
		}
	}
	return out.String()
}

func whole(eight string) byte {
	var o byte
	for i := 7; i >= 0; i-- {
		o = 2*o + eight[i] - '0'
	}
	return o
}

func stuffed(s string) string   { return strings.ReplaceAll(s, "11111", "111110") }
func unstuffed(s string) string { return strings.ReplaceAll(s, "111110", "11111") }

// meaning is what a segment of some bits tells, by the chapter's words.
func meaning(most int, segment string) sync.Segment {
	if strings.Contains(segment, "1111111") {
		return sync.Segment{Kind: 2}
	}
	left := unstuffed(segment)
	if len(left)%8 != 0 {
		return sync.Segment{Kind: 3}
	}
	if len(left)/8 > most {
		return sync.Segment{Kind: 4}
	}
	var data []byte
	for ; len(left) > 0; left = left[8:] {
		data = append(data, whole(left[:8]))
	}
	return sync.Segment{Kind: 0, Data: data}
}

// flags gives where each flag of a stream begins, and where what is behind it does.
func flags(s string) [][2]int {
	var out [][2]int
	last := 0
	for at := 6; at < len(s); at++ {
		begin := at - 6
		if s[begin:at+1] != "1111110" || begin > 0 && s[begin-1] == '1' {
			continue
		}
		if begin > last {
			begin--
		}
		last = at + 1
		out = append(out, [2]int{begin, last})
	}
	return out
}

// model is what the chapter says that a whole stream tells.
func model(most int, s string) []sync.Segment {
	var out []sync.Segment
	last := 0
	for _, f := range flags(s) {
		if segment := s[last:f[0]]; segment != "" {
			out = append(out, meaning(most, segment))
		}
		last = f[1]
	}
	return out
}

// each hands each text of up to most bits to a function.
func each(most int, call func(string)) {
	for length := range most + 1 {
		for n := range 1 << length {
			call(strconv.FormatInt(1<<length+int64(n), 2)[1:])
		}
	}
}

// same holds two lists of segments against each other.
func same(a, b []sync.Segment) bool {
	if len(a) != len(b) {
		return false
	}
	for i := range a {
		if a[i].Kind != b[i].Kind || !bytes.Equal(a[i].Data, b[i].Data) {
			return false
		}
	}
	return true
}

// checkHeld holds Held against its bounds.
func checkHeld(t *testing.T, d *sync.Deframer, most int) {
	t.Helper()
	if held := d.Held(); held < 0 || held > most+1 {
		t.Errorf("of most %d: %d held", most, held)
	}
}

// check feeds a stream, cut where it is told, and holds what was told at each cut
// against the model.
func check(t *testing.T, most int, s string, cuts ...int) {
	t.Helper()
	stream := row(s)
	d := sync.New(most)
	var got []sync.Segment
	from := 0
	for _, to := range append(cuts, len(stream)) {
		got = append(got, d.Feed(stream[from:to])...)
		if want := model(most, s[:to]); !same(got, want) {
			t.Errorf("most %d, stream %s cut at %v: %v, want %v", most, s[:to], cuts, got, want)
			return
		}
		checkHeld(t, d, most)
		from = to
	}
}

// every gives all places of a stream: to cut it into its bits.
func every(n int) []int {
	out := make([]int, n)
	for i := range out {
		out[i] = i
	}
	return out
}

// The numbers of the kinds.

func TestKinds(t *testing.T) {
	if sync.Whole != 0 || sync.Abort != 2 || sync.Ragged != 3 || sync.Long != 4 {
		t.Error(sync.Whole, sync.Abort, sync.Ragged, sync.Long)
	}
	if s := (sync.Segment{2, []byte{1}}); s.Kind != 2 || s.Data[0] != 1 || reflect.TypeOf(s).NumField() != 2 {
		t.Error(s)
	}
}

// P7.1: New, Feed.

func TestFeedOfKnownStreams(t *testing.T) {
	for _, x := range []struct {
		name string
		most int
		s    string
		want []sync.Segment
	}{
		{"the chapter's example", 9, "01111110 00000000 01111110", []sync.Segment{{0, []byte{0}}}},
		{"no bits", 9, "", nil},
		{"no flag", 9, "10000000", nil},
		{"flags alone", 9, "01111110 01111110", nil},
		{"flags that share a 0", 9, "01111110 1111110 1111110", nil},
		{"a 0 between flags", 9, "01111110 0 01111110", []sync.Segment{{3, nil}}},
		{"ahead of the first flag", 9, "10000000 01111110", []sync.Segment{{0, []byte{1}}}},
		{"behind the last flag", 9, "01111110 10000000 01111110 01000000", []sync.Segment{{0, []byte{1}}}},
		{"one flag between", 9, "01111110 10000000 01111110 01000000 01111110", []sync.Segment{{0, []byte{1}}, {0, []byte{2}}}},
		{"a flag without its first 0", 9, "1111110 10000000 01111110", []sync.Segment{{0, []byte{1}}}},
		{"a flag at the stream's end without its last 0", 9, "01111110 10000000 0111111", nil},
		{"six 1s and a 0 behind a 1", 9, "1111111 0 01111110", []sync.Segment{{2, nil}}},
		{"a row of seven at the beginning", 9, "1111111 01111110", []sync.Segment{{2, nil}}},
		{"a row of seven alone between flags", 9, "01111110 1111111 01111110", []sync.Segment{{2, nil}}},
		{"a row of seven at the end", 9, "01111110 10000000 1111111 01111110", []sync.Segment{{2, nil}}},
		{"a row of many", 9, "01111110 1111111111111111111111 01111110", []sync.Segment{{2, nil}}},
		{"up to the next flag", 9, "01111110 1111111 0 10000000 01111110 10000000 01111110", []sync.Segment{{2, nil}, {0, []byte{1}}}},
		{"a row of seven and no flag", 9, "01111110 1111111 0 10000000", nil},
		{"a flag right behind a row of seven", 9, "1111111 01111110 10000000 01111110", []sync.Segment{{2, nil}, {0, []byte{1}}}},
		{"a 0 that was put in", 9, "01111110 111110111 01111110", []sync.Segment{{0, []byte{255}}}},
		{"a 0 that was put in at the end", 9, "01111110 000111110 01111110", []sync.Segment{{0, []byte{248}}}},
		{"a 0 that wasn't put in at the end", 9, "01111110 00011111 01111110", []sync.Segment{{0, []byte{248}}}},
		{"a 0 that was put in, and another", 9, "01111110 0011111 0 0 01111110", []sync.Segment{{0, []byte{124}}}},
		{"1s at both ends", 9, "01111110 111110 11111 01111110", []sync.Segment{{3, nil}}},
		{"seven bits", 9, "01111110 1000000 01111110", []sync.Segment{{3, nil}}},
		{"nine bits", 9, "01111110 100000000 01111110", []sync.Segment{{3, nil}}},
		{"eight bits, of which one was put in", 9, "01111110 11111000 01111110", []sync.Segment{{3, nil}}},
		{"as many as most", 2, "01111110 1000000001000000 01111110", []sync.Segment{{0, []byte{1, 2}}}},
		{"a bit more than most", 1, "01111110 100000001 01111110", []sync.Segment{{3, nil}}},
		{"seven bits more than most", 1, "01111110 100000001000000 01111110", []sync.Segment{{3, nil}}},
		{"an octet more than most", 1, "01111110 1000000010000000 01111110", []sync.Segment{{4, nil}}},
		{"an octet and a bit more than most", 1, "01111110 10000000100000001 01111110", []sync.Segment{{3, nil}}},
		{"two octets more than most", 1, "01111110 100000001000000010000000 01111110", []sync.Segment{{4, nil}}},
		{"most octets, by 0s that were put in longer", 1, "01111110 111110 111 01111110", []sync.Segment{{0, []byte{255}}}},
		{"broken off behind most", 1, "01111110 10000000 10000000 1111111 01111110", []sync.Segment{{2, nil}}},
		{"long, broken off, ragged, and whole", 1, "01111110 1000000010000000 01111110 11111111 01111110 1 01111110 10000000 01111110",
			[]sync.Segment{{4, nil}, {2, nil}, {3, nil}, {0, []byte{1}}}},
	} {
		if got := sync.New(x.most).Feed(row(x.s)); !same(got, x.want) {
			t.Errorf("%s: %s tells %v, want %v", x.name, x.s, got, x.want)
		}
		s := strings.ReplaceAll(x.s, " ", "")
		check(t, x.most, s, every(len(s))...)
		for cut := range s {
			check(t, x.most, s, cut, cut)
		}
	}
}

func TestFeedOfAllShortStreams(t *testing.T) {
	each(17, func(s string) { check(t, 1, s) })
	each(12, func(s string) { check(t, 2, s, every(len(s))...) })
}

func TestFeedOfAllShortSegments(t *testing.T) {
	each(14, func(s string) { check(t, 1, flag+s+flag) })
	each(14, func(s string) { check(t, 1, "1111110"+s+flag+"10000000"+flag) })
	each(10, func(s string) {
		check(t, 1, flag+s+s+flag)
		check(t, 2, flag+s+flag+s+"1111110"+s, every(3*len(s)+23)...)
	})
}

// checkLayers holds what a segment tells against what layers 6 and 1 make of it.
func checkLayers(t *testing.T, segment string) {
	t.Helper()
	left, e := zero.Remove(row(segment))
	octets, ok := bits.Octets(left)
	want := sync.Segment{Kind: 0, Data: octets}
	switch {
	case e != api.OK:
		want = sync.Segment{Kind: 2}
	case !ok:
		want = sync.Segment{Kind: 3}
	}
	if got := sync.New(100).Feed(row(flag + segment + flag)); !same(got, []sync.Segment{want}) {
		t.Errorf("segment %s tells %v, want %v", segment, got, want)
	}
}

func TestASegmentIsWhatTheLayersBelowMakeOfIt(t *testing.T) {
	each(16, func(s string) {
		if s != "" && len(flags(flag+s+flag)) == 2 {
			checkLayers(t, s)
		}
	})
	c := chance(10)
	for n := range 80 {
		checkLayers(t, stuffed(plain(c.octets(n+1))))
	}
}

func TestHowAStreamIsCutPlaysNoPart(t *testing.T) {
	c := chance(1)
	for _, most := range []int{1, 2, 3, 100} {
		for n := range 40 {
			s := c.stream(n)
			check(t, most, s)
			check(t, most, s, every(len(s))...)
			for cut := range len(s) {
				check(t, most, s, cut, cut)
			}
		}
		s := c.stream(1000)
		var cuts []int
		for at := c.below(50); at < len(s); at += c.below(50) {
			cuts = append(cuts, at)
		}
		check(t, most, s, cuts...)
	}
}

func TestBitsAreTheLowestOfTheirBytes(t *testing.T) {
	c := chance(2)
	for n := range 300 {
		s := c.stream(n)
		if got, want := sync.New(3).Feed(c.dirty(row(s))), model(3, s); !same(got, want) {
			t.Errorf("stream %s, as bytes of any kind: %v, want %v", s, got, want)
		}
	}
}

func TestTheLongestThatIsWhole(t *testing.T) {
	c := chance(3)
	for _, most := range []int{1, 2, 3, 7, 64, 1506} {
		data := c.octets(most + 1)
		s := plain(data)
		for _, n := range []int{8*most - 1, 8 * most, 8*most + 1, 8*most + 7, 8*most + 8} {
			check(t, most, flag+stuffed(s[:n])+flag)
		}
		for _, n := range []int{8 * most, 8*most + 1, 8*most + 8} {
			check(t, most, flag+stuffed(s[:n])+"01111111"+flag)
		}
	}
}

func TestTheGreatestMost(t *testing.T) {
	const most = 1 << 20
	c := chance(4)
	data := c.octets(most + 1)
	d := sync.New(most)
	if got := d.Feed(sync.Wrap(data[:most])); !same(got, []sync.Segment{{0, data[:most]}}) {
		t.Errorf("of most octets: %d segments", len(got))
	}
	if got := d.Feed(sync.Wrap(data)); !same(got, []sync.Segment{{4, nil}}) {
		t.Errorf("of one more: %d segments", len(got))
	}
}

func TestDeframersAreApart(t *testing.T) {
	a, b := sync.New(9), sync.New(1)
	a.Feed(row("01111110 1000"))
	if got := b.Feed(row("0100000001000000 01111110")); !same(got, []sync.Segment{{4, nil}}) {
		t.Error(got)
	}
	if got := a.Feed(row("0000 01000000 01111110")); !same(got, []sync.Segment{{0, []byte{1, 2}}}) {
		t.Error(got)
	}
}

// P7.2: Held.

func TestHeldOfNothing(t *testing.T) {
	d := sync.New(3)
	if d.Held() != 0 {
		t.Error("a new one holds", d.Held())
	}
	d.Feed(row("01111110 10000000 01111110"))
	if d.Held() != 0 {
		t.Error("behind a flag it holds", d.Held())
	}
}

func TestNoMoreIsHeldThanMostAndOne(t *testing.T) {
	for _, most := range []int{1, 2, 7, 100} {
		for _, s := range []string{"0", "1", "01", "111110", "0111110", "11111110", "00000001", "10101010", "1111100"} {
			d := sync.New(most)
			for range 16 * (most + 2) {
				for _, b := range row(s) {
					d.Feed([]byte{b})
					checkHeld(t, d, most)
				}
			}
			d.Feed(row(flag + flag))
			if d.Held() != 0 {
				t.Errorf("behind a flag, of most %d and rows %s: %d held", most, s, d.Held())
			}
		}
	}
}

// What Held tells is no more than what is in memory, so that is weighed, too.
func TestNoMoreIsKeptThanIsHeld(t *testing.T) {
	const fed = 1 << 24
	for _, b := range []byte{0, 1} {
		d := sync.New(16)
		chunk := bytes.Repeat([]byte{b}, 1024)
		before := heap()
		for range fed / len(chunk) {
			d.Feed(chunk)
		}
		if more := heap() - before; more > fed/16 {
			t.Errorf("of most 16, behind %d bits of %d: %d bytes more are in use", fed, b, more)
		}
		d.Feed(nil)
	}
}

// heap tells how many bytes are in use.
func heap() int {
	runtime.GC()
	var stats runtime.MemStats
	runtime.ReadMemStats(&stats)
	return int(stats.HeapAlloc)
}

func TestHeldChangesNothing(t *testing.T) {
	c := chance(5)
	s := c.stream(200)
	d := sync.New(2)
	var got []sync.Segment
	for _, b := range row(s) {
		if first, again := d.Held(), d.Held(); first != again {
			t.Fatalf("Held() = %d, and again %d", first, again)
		}
		got = append(got, d.Feed([]byte{b})...)
	}
	if want := model(2, s); !same(got, want) {
		t.Errorf("%v, want %v", got, want)
	}
}

// P7.3: Wrap.

func TestWrapOfKnownOctets(t *testing.T) {
	for _, x := range []struct {
		data []byte
		want string
	}{
		{nil, "01111110 01111110"},
		{[]byte{}, "01111110 01111110"},
		{[]byte{0}, "01111110 00000000 01111110"},
		{[]byte{1}, "01111110 10000000 01111110"},
		{[]byte{0x80}, "01111110 00000001 01111110"},
		{[]byte{0x1f}, "01111110 111110000 01111110"},
		{[]byte{0xf8}, "01111110 000111110 01111110"},
		{[]byte{0x7e}, "01111110 011111010 01111110"},
		{[]byte{0xff, 0xff}, "01111110 1111101111101111101 01111110"},
		{[]byte{0xf0, 0x01}, "01111110 00001111 100000000 01111110"},
	} {
		if got := sync.Wrap(x.data); !bytes.Equal(got, row(x.want)) {
			t.Errorf("Wrap(% x) = %v, want %s", x.data, got, x.want)
		}
	}
}

func TestWrapOfEachOctet(t *testing.T) {
	for n := range 1 << 16 {
		data := []byte{byte(n), byte(n >> 8)}
		if got, want := text(sync.Wrap(data)), flag+stuffed(plain(data))+flag; got != want {
			t.Errorf("Wrap(% x) = %s, want %s", data, got, want)
		}
	}
}

// checkFound feeds what came ahead, and then what Wrap gives: first there is what
// the segment tells that was open, then the data.
func checkFound(t *testing.T, most int, ahead string, data []byte) {
	t.Helper()
	d := sync.New(most)
	told := len(d.Feed(row(ahead)))
	want := model(most, ahead+flag)[told:]
	switch {
	case len(data) > most:
		want = append(want, sync.Segment{Kind: 4})
	case len(data) > 0:
		want = append(want, sync.Segment{Kind: 0, Data: data})
	}
	if got := d.Feed(sync.Wrap(data)); !same(got, want) {
		t.Errorf("most %d, ahead %s, data % x: %v, want %v", most, ahead, data, got, want)
	}
	if d.Held() != 0 {
		t.Errorf("behind Wrap there is %d held", d.Held())
	}
}

func TestWrapIsFoundBehindAllShortStreams(t *testing.T) {
	for _, data := range [][]byte{nil, {0}, {0xff}, {0x7e}, {0xf8, 0x1f}, {1, 2, 3}} {
		each(12, func(s string) { checkFound(t, 2, s, data) })
		each(10, func(s string) { checkFound(t, 2, flag+s, data) })
	}
}

func TestWrapIsFoundBehindAnyStream(t *testing.T) {
	c := chance(6)
	for n := range 100 {
		s := c.stream(n)
		for end := max(0, len(s)-40); end <= len(s); end++ {
			checkFound(t, 12, s[:end], c.octets(c.below(15)))
		}
	}
}

func TestWrapIsFoundAtEachBitOfAnother(t *testing.T) {
	c := chance(7)
	for _, data := range [][]byte{nil, {0xff, 0xff}, {0x7e, 0, 0x7e}, c.octets(20)} {
		s := text(sync.Wrap(data))
		for end := range len(s) + 1 {
			checkFound(t, 3, s[:end], []byte{0xfc, 0x7e, 0x3f})
		}
	}
}

func TestManyWrapsOneBehindTheOther(t *testing.T) {
	c := chance(8)
	var stream []byte
	var want []sync.Segment
	for n := range 200 {
		data := c.octets(1 + n%50)
		want = append(want, sync.Segment{Kind: 0, Data: data})
		stream = append(stream, sync.Wrap(data)...)
	}
	if got := sync.New(50).Feed(stream); !same(got, want) {
		t.Errorf("of 200 there are %d", len(got))
	}
}

// K3, K5: what is handed in, and what is answered. K6: the same call answers the
// same.

func TestOnlyAWholeOneHasData(t *testing.T) {
	for _, s := range sync.New(1).Feed(row("1 01111110 10000000 1 01111110 1000000010000000 01111110 10000000 1111111 01111110")) {
		if s.Kind == sync.Whole || s.Data != nil {
			t.Error(s)
		}
	}
}

func TestFeedKeepsAndChangesNothingOfAChunk(t *testing.T) {
	d := sync.New(9)
	c := chance(9)
	room := c.dirty(row("01111110 10000000 01111110 0100" + "1111 01111110"))
	before := bytes.Clone(room)
	chunk := room[:28]
	got := d.Feed(chunk)
	want := []sync.Segment{{0, []byte{1}}}
	if !same(got, want) || !bytes.Equal(room, before) {
		t.Error(got, room)
	}
	for i := range chunk {
		chunk[i] = 1
	}
	if !same(got, want) {
		t.Error("an answer shares a chunk's memory", got)
	}
	if got := d.Feed(row("0000 01111110")); !same(got, []sync.Segment{{0, []byte{2}}}) {
		t.Error("a chunk was kept", got)
	}
}

// spoil overwrites a list, and the room behind it.
func spoil(list []byte) {
	list = list[:cap(list)]
	for i := range list {
		list[i] = 0x55
	}
}

func TestWhatFeedAnswersIsNew(t *testing.T) {
	d := sync.New(9)
	first := d.Feed(row("10000000 01000000 01111110 11000000 00100000 01111110 10100000 0110"))
	again := d.Feed(row("0000 01111110 11100000 01111110 00010000 100"))
	if want := []sync.Segment{{0, []byte{1, 2}}, {0, []byte{3, 4}}}; !same(first, want) {
		t.Error("a later call changed what was answered", first)
	}
	spoil(first[0].Data)
	if !bytes.Equal(first[1].Data, []byte{3, 4}) {
		t.Error("two lists of an answer share memory", first)
	}
	spoil(first[1].Data)
	if want := []sync.Segment{{0, []byte{5, 6}}, {0, []byte{7}}}; !same(again, want) {
		t.Error("two answers share memory", again)
	}
	spoil(again[0].Data)
	spoil(again[1].Data)
	if got := d.Feed(row("10000 01111110")); !same(got, []sync.Segment{{0, []byte{8, 9}}}) {
		t.Error("an answer shares memory with the deframer", got)
	}
}

func TestWrapChangesNothingAndAnswersNewMemory(t *testing.T) {
	room := []byte{1, 0xff, 0x7e, 0xf8, 0xff, 0xff}
	before := bytes.Clone(room)
	for n := range 5 {
		got := sync.Wrap(room[:n])
		exact := sync.Wrap(bytes.Clone(room[:n]))
		if !bytes.Equal(got, exact) {
			t.Errorf("%v, %v", got, exact)
		}
		spoil(got)
		if !bytes.Equal(room, before) {
			t.Errorf("% x", room)
		}
		if again := sync.Wrap(room[:n]); !bytes.Equal(again, exact) {
			t.Errorf("%v, and again %v", exact, again)
		}
	}
}
