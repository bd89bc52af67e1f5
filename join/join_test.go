package join_test

import (
	"bytes"
	"math"
	"reflect"
	"runtime"
	"slices"
	"testing"

	"marline/api"
	"marline/frag"
	"marline/join"
)

// both are both kinds of numbers: short ones, and others.
func both() []bool { return []bool{true, false} }

// mod says how many numbers there are.
func mod(short bool) int {
	if short {
		return 4096
	}
	return 16777216
}

// some gives n octets that look like chance, but are the same in every run.
func some(seed uint32, n int) []byte {
	out := make([]byte, n)
	for i := range out {
		seed = seed*1664525 + 1013904223
		out[i] = byte(seed >> 24)
	}
	return out
}

// chance gives numbers that look like chance, but are the same in every run.
type chance uint32

func (c *chance) below(n int) int {
	*c = *c*1664525 + 1013904223
	return int(uint64(*c) * uint64(n) >> 32)
}

// piece gives a piece by what it does ('b' begins, 'e' ends), its number, and its octets.
func piece(does string, number int, data ...byte) frag.Piece {
	return frag.Piece{Begin: does[0] == 'b', End: does[1] == 'e', Number: number, Data: data}
}

// kinds are all that a piece can do.
func kinds() []string { return []string{"be", "b-", "-e", "--"} }

func whole(data ...byte) join.Event     { return join.Event{Kind: 0, Data: data} }
func loss(from, many int) join.Event    { return join.Event{Kind: 1, From: from, Many: many} }
func bad(from int) join.Event           { return join.Event{Kind: 2, From: from} }
func long() join.Event                  { return join.Event{Kind: 3} }
func told(l ...join.Event) []join.Event { return l }

// same holds two lists of events against each other, where no octets are nil.
func same(a, b []join.Event) bool {
	return slices.EqualFunc(a, b, func(x, y join.Event) bool {
		return x.Kind == y.Kind && x.From == y.From && x.Many == y.Many && bytes.Equal(x.Data, y.Data)
	})
}

// model is a joiner that goes by the chapter's words, place by place.
type model struct {
	short      bool
	room, most int
	last       []int // the greatest place that came by each link, or -1
	came       map[int]frag.Piece
	gone       int // how many places are gone through
	at         string
	data       []byte
}

func newModel(short bool, links, room, most int) *model {
	return &model{short: short, room: room, most: most, last: slices.Repeat([]int{-1}, links), came: map[int]frag.Piece{}, at: "idle"}
}

func (m *model) feed(link int, p frag.Piece) ([]join.Event, api.Errno) {
	if link < 0 || link >= len(m.last) {
		return nil, api.ErrArg
	}
	if p.Number < 0 || p.Number >= mod(m.short) {
		return nil, api.ErrRange
	}
	place := p.Number
	for place <= m.last[link] {
		place += mod(m.short)
	}
	m.last[link] = place
	if _, again := m.came[place]; !again && place >= m.gone {
		p.Data = bytes.Clone(p.Data)
		m.came[place] = p
	}
	out := m.through(0)
	for m.kept() > m.room {
		out = append(out, m.through(slices.Min(m.places()))...)
	}
	return out, api.OK
}

func (m *model) flush() []join.Event {
	if m.kept() == 0 {
		return nil
	}
	return m.through(slices.Max(m.places()))
}

func (m *model) kept() int { return len(m.came) }

// places are those for which a piece waits.
func (m *model) places() []int {
	var out []int
	for place := range m.came {
		out = append(out, place)
	}
	return out
}

// through goes through places one by one; those ahead of forced go as if they lacked.
func (m *model) through(forced int) []join.Event {
	var out []join.Event
	lacked := false
	for ; ; m.gone++ {
		p, ok := m.came[m.gone]
		switch {
		case ok:
			delete(m.came, m.gone)
			out = append(out, m.become(p)...)
			lacked = false
		case !m.lacks() && m.gone >= forced:
			return out
		case lacked:
			out[len(out)-1].Many++
		default:
			out = append(out, loss(m.gone%mod(m.short), 1))
			lacked, m.at = true, "skipping"
		}
	}
}

// lacks tells whether by each link that place's piece or a later one came.
func (m *model) lacks() bool {
	for _, place := range m.last {
		if place < m.gone {
			return false
		}
	}
	return true
}

// become says what becomes of a piece.
func (m *model) become(p frag.Piece) []join.Event {
	var out []join.Event
	if p.Begin {
		if m.at == "within" {
			out = append(out, bad(p.Number))
		}
		m.at, m.data = "within", bytes.Clone(p.Data)
	} else {
		switch m.at {
		case "idle":
			m.at = "skipping"
			return told(bad(p.Number))
		case "skipping":
			return nil
		}
		m.data = slices.Concat(m.data, p.Data)
	}
	if len(m.data) > m.most {
		m.at = "skipping"
		return append(out, long())
	}
	if p.End {
		m.at = "idle"
		return append(out, whole(m.data...))
	}
	return out
}

// pair is a joiner, and a model of the chapter's words that is handed the same.
type pair struct {
	t     *testing.T
	name  string
	steps int
	j     *join.Joiner
	m     *model
}

func newPair(t *testing.T, name string, short bool, links, room, most int) *pair {
	t.Helper()
	j, errno := join.New(short, links, room, most)
	if errno != api.OK || j == nil {
		t.Fatalf("New(%t, %d, %d, %d) = %v, %d", short, links, room, most, j, errno)
	}
	x := &pair{t: t, name: name, j: j, m: newModel(short, links, room, most)}
	x.checkKept("New")
	return x
}

// feed hands both the same, and spoils (K5) what it handed in and what it got.
func (x *pair) feed(link int, p frag.Piece) []join.Event {
	x.t.Helper()
	x.steps++
	want, code := x.m.feed(link, p)
	memory := slices.Concat(p.Data, []byte{0xa5, 0xa5, 0xa5})
	before := bytes.Clone(memory)
	p.Data = memory[:len(p.Data)]
	got, errno := x.j.Feed(link, p)
	if errno != code || !same(got, want) {
		x.t.Fatalf("%s, step %d: Feed(%d, %v) = %v, %d, want %v, %d", x.name, x.steps, link, p, got, errno, want, code)
	}
	if !bytes.Equal(memory, before) {
		x.t.Fatalf("%s, step %d: Feed(%d, % x) changed what was handed in", x.name, x.steps, link, before)
	}
	spoil(memory)
	spoilAll(got)
	x.checkKept("Feed")
	return want
}

func (x *pair) flush() []join.Event {
	x.t.Helper()
	x.steps++
	want := x.m.flush()
	got := x.j.Flush()
	if !same(got, want) {
		x.t.Fatalf("%s, step %d: Flush() = %v, want %v", x.name, x.steps, got, want)
	}
	spoilAll(got)
	x.checkKept("Flush")
	return want
}

func (x *pair) checkKept(behind string) {
	x.t.Helper()
	if n := x.j.Kept(); n != x.m.kept() || n > x.m.room {
		x.t.Fatalf("%s, step %d: behind %s Kept() = %d, want %d, no more than %d", x.name, x.steps, behind, n, x.m.kept(), x.m.room)
	}
}

// spoil overwrites octets, and what lies behind them in their memory.
func spoil(b []byte) {
	b = b[:cap(b)]
	for i := range b {
		b[i] ^= 0x5a
	}
}

func spoilAll(l []join.Event) {
	for i := range l {
		spoil(l[i].Data)
	}
}

// step is a call of Feed, and what it answers.
type step struct {
	link int
	p    frag.Piece
	want []join.Event
	code api.Errno
}

// play hands steps to a joiner.
func play(t *testing.T, name string, j *join.Joiner, l []step) {
	t.Helper()
	for i, x := range l {
		if got, errno := j.Feed(x.link, x.p); errno != x.code || !same(got, x.want) {
			t.Errorf("%s, step %d: Feed(%d, %v) = %v, %d, want %v, %d", name, i, x.link, x.p, got, errno, x.want, x.code)
		}
	}
}

// checkFlush holds what Flush answers against what is wanted: nothing waits then.
func checkFlush(t *testing.T, name string, j *join.Joiner, want ...join.Event) {
	t.Helper()
	if got := j.Flush(); !same(got, want) || j.Kept() != 0 {
		t.Errorf("%s: Flush() = %v, Kept() = %d, want %v, 0", name, got, j.Kept(), want)
	}
}

// checkKept holds what Kept answers against what is wanted.
func checkKept(t *testing.T, name string, j *join.Joiner, want int) {
	t.Helper()
	if n := j.Kept(); n != want {
		t.Errorf("%s: Kept() = %d, want %d", name, n, want)
	}
}

// made gives a joiner that may be.
func made(t *testing.T, short bool, links, room, most int) *join.Joiner {
	t.Helper()
	j, errno := join.New(short, links, room, most)
	if errno != api.OK || j == nil {
		t.Fatalf("New(%t, %d, %d, %d) = %v, %d", short, links, room, most, j, errno)
	}
	return j
}

// The numbers of the kinds, and an event's fields.

func TestKinds(t *testing.T) {
	if join.Whole != 0 || join.Loss != 1 || join.Bad != 2 || join.Long != 3 {
		t.Error(join.Whole, join.Loss, join.Bad, join.Long)
	}
	e := join.Event{2, []byte{1}, 3, 4}
	if e.Kind != 2 || e.Data[0] != 1 || e.From != 3 || e.Many != 4 || reflect.TypeOf(e).NumField() != 4 {
		t.Error(e)
	}
}

// P24.1: New.

// rightAsk says which joiners may be.
func rightAsk(links, room, most int) bool {
	return links >= 1 && links <= 16 && room >= 1 && room <= 4096 && most >= 1 && most <= 1<<20
}

func TestNewOfEachEdge(t *testing.T) {
	far := []int{math.MinInt, -1 << 32, -4096, -1, 0, 1, 2, 1 << 32, 1<<32 + 1, math.MaxInt}
	for _, links := range append(far, 3, 15, 16, 17, 18, 4096) {
		for _, room := range append(far, 16, 17, 4095, 4096, 4097, 1<<20) {
			for _, most := range append(far, 4096, 4097, 1<<20-1, 1<<20, 1<<20+1) {
				for _, short := range both() {
					j, errno := join.New(short, links, room, most)
					want := api.OK
					if !rightAsk(links, room, most) {
						want = api.ErrArg
					}
					if errno != want || (j == nil) != (want != api.OK) {
						t.Errorf("New(%t, %d, %d, %d) = %v, %d, want %d", short, links, room, most, j, errno, want)
					}
				}
			}
		}
	}
}

func TestNewHasNothing(t *testing.T) {
	for _, short := range both() {
		j := made(t, short, 3, 5, 9)
		checkKept(t, "new", j, 0)
		checkFlush(t, "new", j)
		checkFlush(t, "flushed", j)
		// It is idle, and behind nothing, yet.
		play(t, "new", j, []step{{0, piece("-e", 0), told(bad(0)), api.OK}})
	}
}

// P24.2: Feed.

func TestFeedOfNoLink(t *testing.T) {
	for _, short := range both() {
		for _, links := range []int{1, 2, 15, 16} {
			j := made(t, short, links, 4, 9)
			for _, link := range []int{links, links + 1, 17, 1 << 32, math.MaxInt, -1, -links, -1 << 32, math.MinInt} {
				// K2: no such link is told ahead of a number that is none.
				for _, number := range []int{0, 1, 4095, 1<<24 - 1, 1 << 24, -1, math.MaxInt, math.MinInt} {
					play(t, "no link", j, []step{{link, piece("be", number, 7), nil, api.ErrArg}})
				}
			}
			checkKept(t, "no link", j, 0)
			for link := range links {
				j := made(t, short, links, 4, 9)
				play(t, "each link", j, []step{{link, piece("be", 0, 7), told(whole(7)), api.OK}})
			}
		}
	}
}

func TestFeedOfNumbersThatAreNone(t *testing.T) {
	for _, short := range both() {
		m := mod(short)
		for _, number := range []int{-1, -2, -m, m, m + 1, 2 * m, 1 << 24, 1<<24 + 1, 1 << 32, -1 << 32, math.MaxInt, math.MinInt} {
			// K4: nothing changes, neither the link's place nor what is within.
			j := made(t, short, 1, 4, 9)
			none := step{0, piece("be", number, 9), nil, api.ErrRange}
			play(t, "none", j, []step{none, {0, piece("b-", 0, 1), nil, api.OK}, none, {0, piece("-e", 1, 2), told(whole(1, 2)), api.OK}, none})
			play(t, "none", j, []step{{0, piece("be", 2, 3), told(whole(3)), api.OK}, none})
			checkKept(t, "none", j, 0)
			checkFlush(t, "none", j)
		}
		for _, number := range []int{0, 1, m - 1} {
			if _, errno := made(t, short, 2, 4, 9).Feed(0, piece("be", number)); errno != api.OK {
				t.Errorf("Feed of the number %d: %d", number, errno)
			}
		}
	}
}

func TestKnownPieces(t *testing.T) {
	for _, short := range both() {
		j := made(t, short, 2, 4, 3)
		play(t, "the chapter's example", j, []step{
			{1, piece("-e", 1, 2), nil, api.OK},
			{0, piece("b-", 0, 1), told(whole(1, 2)), api.OK},
		})
		checkKept(t, "the chapter's example", j, 0)
		j = made(t, short, 1, 4, 3)
		play(t, "one link", j, []step{
			{0, piece("be", 0, 1), told(whole(1)), api.OK},
			{0, piece("be", 1), told(whole()), api.OK},
			{0, piece("b-", 2), nil, api.OK},
			{0, piece("--", 3), nil, api.OK},
			{0, piece("-e", 4), told(whole()), api.OK},
			{0, piece("b-", 5, 1), nil, api.OK},
			{0, piece("--", 6, 2), nil, api.OK},
			{0, piece("-e", 7, 3), told(whole(1, 2, 3)), api.OK},
		})
	}
}

// What becomes of pieces of each kind, wherever a joiner is.

func TestPiecesWhileIdle(t *testing.T) {
	for _, short := range both() {
		for _, x := range []struct {
			does string
			want []join.Event
			then []join.Event // of a piece behind it that ends
		}{
			{"be", told(whole(1)), told(bad(1))},
			{"b-", nil, told(whole(1, 2))},
			{"-e", told(bad(0)), nil},
			{"--", told(bad(0)), nil},
		} {
			play(t, "idle", made(t, short, 1, 1, 9), []step{{0, piece(x.does, 0, 1), x.want, api.OK}, {0, piece("-e", 1, 2), x.then, api.OK}})
		}
	}
}

func TestPiecesWithinAPacket(t *testing.T) {
	for _, short := range both() {
		for _, x := range []struct {
			does string
			want []join.Event
			then []join.Event
		}{
			{"be", told(bad(1), whole(2)), told(bad(2))},
			{"b-", told(bad(1)), told(whole(2, 3))},
			{"-e", told(whole(1, 2)), told(bad(2))},
			{"--", nil, told(whole(1, 2, 3))},
		} {
			play(t, "within", made(t, short, 1, 1, 9), []step{{0, piece("b-", 0, 1), nil, api.OK}, {0, piece(x.does, 1, 2), x.want, api.OK}, {0, piece("-e", 2, 3), x.then, api.OK}})
		}
	}
}

func TestPiecesWhileSkipping(t *testing.T) {
	for _, short := range both() {
		for _, x := range []struct {
			does string
			want []join.Event
			then []join.Event
		}{
			{"be", told(whole(2)), told(bad(5))},
			{"b-", nil, told(whole(2, 3))},
			{"-e", nil, nil},
			{"--", nil, nil},
		} {
			last := []step{{0, piece(x.does, 4, 2), x.want, api.OK}, {0, piece("-e", 5, 3), x.then, api.OK}}
			for name, first := range map[string][]step{
				"behind a Bad":             {{0, piece("--", 0, 1), told(bad(0)), api.OK}, {0, piece("--", 1, 1), nil, api.OK}, {0, piece("--", 2, 1), nil, api.OK}, {0, piece("--", 3, 1), nil, api.OK}},
				"behind what ends":         {{0, piece("be", 0, 1), told(whole(1)), api.OK}, {0, piece("-e", 1, 1), told(bad(1)), api.OK}, {0, piece("-e", 2, 1), nil, api.OK}, {0, piece("-e", 3, 1), nil, api.OK}},
				"behind a Loss":            {{0, piece("--", 3, 1), told(loss(0, 3)), api.OK}},
				"behind a Loss in between": {{0, piece("b-", 0, 1), nil, api.OK}, {0, piece("-e", 3, 1), told(loss(1, 2)), api.OK}},
				"behind a Long":            {{0, piece("b-", 0, 1), nil, api.OK}, {0, piece("--", 1, 1, 1), told(long()), api.OK}, {0, piece("-e", 3, 1), told(loss(2, 1)), api.OK}},
				"behind a Long that ends":  {{0, piece("b-", 0, 1), nil, api.OK}, {0, piece("--", 1, 1), nil, api.OK}, {0, piece("-e", 2, 1), told(long()), api.OK}, {0, piece("-e", 3, 1), nil, api.OK}},
			} {
				play(t, name+": "+x.does, made(t, short, 1, 1, 2), slices.Concat(first, last))
			}
		}
	}
}

// A packet of just most octets, and of one more, however its pieces part it.
func TestMostOctets(t *testing.T) {
	for _, most := range []int{1, 2, 3, 4, 7, 20} {
		for size := range most + 3 {
			for first := range size + 1 {
				for _, begins := range []bool{true, false} {
					data := some(uint32(size), size)
					x := newPair(t, "most", true, 1, 1, most)
					n := 0
					if !begins {
						x.feed(0, piece("b-", n))
						n++
					}
					a := frag.Piece{Begin: begins, Number: n, Data: data[:first]}
					b := frag.Piece{End: true, Number: n + 1, Data: data[first:]}
					out := slices.Concat(x.feed(0, a), x.feed(0, b))
					want := told(whole(data...))
					if size > most {
						want = told(long())
					}
					if !same(out, want) {
						t.Errorf("%d octets of at most %d: %v", size, most, out)
					}
					x.feed(0, piece("be", n+2, 1))
				}
			}
		}
	}
}

func TestGreatestMost(t *testing.T) {
	data := some(3, 1<<20+1)
	for _, most := range []int{1 << 20, 1<<20 - 1, 1500} {
		for _, size := range []int{most - 1, most, most + 1} {
			want := whole(data[:size]...)
			if size > most {
				want = long()
			}
			one := frag.Piece{Begin: true, End: true, Number: 1, Data: data[:size]}
			play(t, "one piece", made(t, false, 2, 9, most), []step{
				{1, one, nil, api.OK}, // it waits
				{0, piece("be", 0), told(whole(), want), api.OK},
			})
			play(t, "two pieces", made(t, false, 1, 9, most), []step{
				{0, frag.Piece{Begin: true, Data: data[:7]}, nil, api.OK},
				{0, frag.Piece{End: true, Number: 1, Data: data[7:size]}, told(want), api.OK},
			})
			l, next, _ := frag.Split(false, 0, 700, data[:size])
			j := made(t, false, 1, 9, most)
			var out []join.Event
			for _, p := range append(l, piece("be", next, 1)) {
				some, _ := j.Feed(0, p)
				out = append(out, some...)
			}
			if !same(out, told(want, whole(1))) {
				t.Errorf("%d octets of at most %d in %d pieces: %d events", size, most, len(l), len(out))
			}
		}
	}
	// No piece has too many octets.
	j := made(t, false, 1, 9, 1)
	play(t, "a great piece", j, []step{
		{0, frag.Piece{Begin: true, End: true, Data: data}, told(long()), api.OK},
		{0, frag.Piece{End: true, Number: 1, Data: data}, nil, api.OK},
		{0, frag.Piece{Begin: true, Number: 2, Data: data}, told(long()), api.OK},
		{0, piece("be", 3, 1), told(whole(1)), api.OK},
	})
}

// Both a Bad and a Long may become of one piece.
func TestBadAndLong(t *testing.T) {
	for _, does := range []string{"b-", "be"} {
		play(t, does, made(t, true, 1, 1, 2), []step{
			{0, piece("b-", 0, 1), nil, api.OK},
			{0, piece(does, 1, 1, 2, 3), told(bad(1), long()), api.OK},
			{0, piece("-e", 2), nil, api.OK},
		})
	}
}

// Places: numbers go round, by each link for itself.

func TestNumbersGoRound(t *testing.T) {
	x := newPair(t, "round", true, 1, 1, 9)
	for i := range 3*4096 + 5 {
		if out := x.feed(0, piece("be", i%4096, byte(i))); !same(out, told(whole(byte(i)))) {
			t.Fatal(i, out)
		}
	}
}

// The last number, and the first one behind it: a Loss that goes round.
func TestLossGoesRound(t *testing.T) {
	for _, short := range both() {
		m := mod(short)
		j := made(t, short, 1, 4, 9)
		play(t, "one link", j, []step{
			{0, piece("be", m-2, 1), told(loss(0, m-2), whole(1)), api.OK},
			{0, piece("be", 1, 2), told(loss(m-1, 2), whole(2)), api.OK},
			{0, piece("be", 1, 3), told(loss(2, m-1), whole(3)), api.OK},
			{0, piece("be", 0, 4), told(loss(2, m-2), whole(4)), api.OK},
			{0, piece("be", 1, 5), told(whole(5)), api.OK},
			{0, piece("be", 0, 6), told(loss(2, m-2), whole(6)), api.OK},
		})
		j = made(t, short, 2, 4, 9)
		play(t, "two links", j, []step{
			{0, piece("be", m-1, 1), nil, api.OK},
			{0, piece("be", 0, 2), nil, api.OK},
			{1, piece("be", m-1, 3), told(loss(0, m-1), whole(1), whole(2)), api.OK},
			{1, piece("be", 0, 4), nil, api.OK},
			{1, piece("be", 1, 5), told(whole(5)), api.OK},
			{0, piece("be", 3, 6), nil, api.OK},
			{1, piece("be", 2, 7), told(whole(7), whole(6)), api.OK},
		})
	}
}

// The same number by one link, many times: each time a whole round behind.
func TestOneNumberOften(t *testing.T) {
	m := 1 << 24
	j := made(t, false, 2, 300, 9)
	for i := range 300 {
		play(t, "often", j, []step{{0, piece("be", 5, byte(i)), nil, api.OK}})
	}
	checkKept(t, "often", j, 300)
	want := told(loss(0, 5), whole(0))
	for i := 1; i < 300; i++ {
		want = append(want, loss(6, m-1), whole(byte(i)))
	}
	// By the other link all of these come again.
	var got []join.Event
	for range 300 {
		out, _ := j.Feed(1, piece("be", 5, 99))
		got = append(got, out...)
	}
	if !same(got, want) {
		t.Errorf("%d events, want %d", len(got), len(want))
	}
	checkKept(t, "often", j, 0)
}

// A place lacks, when by each link a piece came behind it, and not before.
func TestEachLinkMustCome(t *testing.T) {
	for _, short := range both() {
		for links := 1; links <= 16; links++ {
			j := made(t, short, links, 16, 9)
			var last []join.Event
			for link := range links {
				var want []join.Event
				if link == links-1 {
					want = told(loss(0, 1))
					for i := range links {
						want = append(want, whole(byte(i)))
					}
				}
				last, _ = j.Feed(link, piece("be", link+1, byte(link)))
				if !same(last, want) {
					t.Errorf("%d links, the link %d: %v, want %v", links, link, last, want)
				}
			}
			checkKept(t, "each", j, 0)
		}
	}
}

// Two places that lack, with a piece between: two Losses, even if the piece tells nothing.
func TestEachRowOfPlacesThatLack(t *testing.T) {
	j := made(t, true, 2, 9, 9)
	play(t, "rows", j, []step{
		{0, piece("--", 2, 1), nil, api.OK},
		{0, piece("--", 3, 1), nil, api.OK},
		{0, piece("b-", 7, 1), nil, api.OK},
		{0, piece("-e", 9, 1), nil, api.OK},
		{0, piece("be", 10, 4), nil, api.OK},
		{0, piece("be", 12, 5), nil, api.OK},
		{1, piece("b-", 11, 2), told(loss(0, 2), loss(4, 3), loss(8, 1), whole(4), bad(12), whole(5)), api.OK},
	})
	checkKept(t, "rows", j, 0)
}

// What comes at a place again counts for nothing, but came by its link.
func TestPlacesAgain(t *testing.T) {
	j := made(t, true, 3, 9, 9)
	play(t, "again", j, []step{
		{0, piece("be", 3, 1), nil, api.OK},
		{1, piece("b-", 3, 2), nil, api.OK}, // it waits already
		{0, piece("be", 0, 3), nil, api.OK}, // a round behind
		{1, piece("be", 4, 4), nil, api.OK},
		{2, piece("-e", 3, 5), told(loss(0, 3), whole(1), whole(4)), api.OK},
		{2, piece("be", 4, 6), nil, api.OK}, // it was gone through
		{0, piece("be", 1, 7), nil, api.OK},
		{2, piece("be", 6, 8), nil, api.OK},
		{1, piece("be", 6, 9), told(loss(5, 1), whole(8)), api.OK},
		{1, piece("be", 5, 10), nil, api.OK}, // a round behind: 4101
		{2, piece("be", 5, 11), told(loss(7, 4089), whole(3), whole(7)), api.OK},
		{0, piece("be", 5, 12), told(loss(2, 3), whole(10)), api.OK},
	})
	checkKept(t, "again", j, 0)
}

// What comes at a place that was gone through as lacking counts for nothing, but
// other places lack by it.
func TestPlacesTooLate(t *testing.T) {
	for _, short := range both() {
		j := made(t, short, 2, 2, 9)
		play(t, "late", j, []step{
			{0, piece("be", 4, 1), nil, api.OK},
			{0, piece("be", 6, 2), nil, api.OK},
			{0, piece("be", 8, 3), told(loss(0, 4), whole(1)), api.OK},
			{1, piece("be", 1, 4), nil, api.OK},
			{1, piece("be", 2, 5), nil, api.OK},
			{1, piece("be", 4, 6), nil, api.OK},
			{1, piece("be", 7, 7), told(loss(5, 1), whole(2), whole(7), whole(3)), api.OK},
		})
		checkKept(t, "late", j, 0)
	}
}

// Room: just so many pieces wait.

func TestRoom(t *testing.T) {
	for _, short := range both() {
		for _, room := range []int{1, 2, 3, 10, 4095, 4096} {
			j := made(t, short, 2, room, 9)
			want := told(loss(0, 1))
			for n := 1; n <= room; n++ {
				play(t, "there is room", j, []step{{0, piece("be", n%mod(short), byte(n)), nil, api.OK}})
				checkKept(t, "there is room", j, n)
				want = append(want, whole(byte(n)))
			}
			// All that waits stands in a row: one more, and all of it goes.
			n := room + 1
			want = append(want, whole(byte(n)))
			play(t, "no room", j, []step{{0, piece("be", n%mod(short), byte(n)), want, api.OK}})
			checkKept(t, "no room", j, 0)
		}
	}
}

// What comes may itself be the least one that waits, or what is at its place may wait.
func TestRoomForWhatComes(t *testing.T) {
	j := made(t, true, 2, 2, 9)
	play(t, "the least", j, []step{
		{0, piece("be", 5, 5), nil, api.OK},
		{0, piece("be", 7, 7), nil, api.OK},
		{1, piece("be", 5, 1), told(loss(0, 5), whole(5)), api.OK},
		{0, piece("be", 9, 9), nil, api.OK},
		{1, piece("be", 7, 1), told(loss(6, 1), whole(7)), api.OK},
	})
	j = made(t, true, 3, 2, 9)
	play(t, "the least", j, []step{
		{0, piece("be", 5, 5), nil, api.OK},
		{0, piece("be", 7, 7), nil, api.OK},
		{1, piece("be", 7, 1), nil, api.OK}, // it counts for nothing: there is room
		{1, piece("be", 4, 1), told(loss(0, 5), whole(5)), api.OK},
		{2, piece("be", 3, 3), nil, api.OK},
		{2, piece("be", 6, 6), told(whole(6), whole(7)), api.OK},
	})
	checkKept(t, "the least", j, 1)
	j = made(t, true, 3, 2, 9)
	play(t, "the least comes last", j, []step{
		{0, piece("be", 5, 5), nil, api.OK},
		{0, piece("be", 7, 7), nil, api.OK},
		{1, piece("be", 3, 3), told(loss(0, 3), whole(3)), api.OK},
		{1, piece("be", 4, 4), told(whole(4), whole(5)), api.OK},
	})
	checkKept(t, "the least comes last", j, 1)
}

// A joiner is skipping behind places that were gone through for want of room.
func TestRoomWithinAPacket(t *testing.T) {
	for _, short := range both() {
		j := made(t, short, 2, 1, 9)
		play(t, "within", j, []step{
			{0, piece("b-", 0, 1), nil, api.OK},
			{0, piece("--", 2, 3), nil, api.OK},
			{0, piece("-e", 4, 5), told(loss(1, 1)), api.OK},
			{1, piece("--", 3, 4), nil, api.OK},
			{1, piece("b-", 5, 6), nil, api.OK},
			{1, piece("-e", 6, 7), told(whole(6, 7)), api.OK},
		})
		checkKept(t, "within", j, 0)
	}
}

// Many gaps, with as much room as may be: each piece takes few steps.
func TestManyGaps(t *testing.T) {
	room := 4096
	j := made(t, false, 2, room, 9)
	for i := range 200000 {
		var want []join.Event
		if i >= room {
			want = told(loss(2*(i-room), 1), whole(byte(i-room)))
		}
		if got, errno := j.Feed(0, piece("be", 2*i+1, byte(i))); errno != api.OK || !same(got, want) {
			t.Fatalf("the piece %d: %v, %d, want %v", i, got, errno, want)
		}
	}
	checkKept(t, "gaps", j, room)
}

// P24.3: Flush, Kept.

func TestFlushOfKnownPieces(t *testing.T) {
	for _, short := range both() {
		j := made(t, short, 2, 9, 9)
		play(t, "flush", j, []step{
			{0, piece("b-", 0, 1), nil, api.OK},
			{0, piece("be", 2, 2), nil, api.OK},
			{0, piece("b-", 5, 3), nil, api.OK},
			{0, piece("--", 6, 4), nil, api.OK},
		})
		checkKept(t, "flush", j, 3)
		checkFlush(t, "flush", j, loss(1, 1), whole(2), loss(3, 2))
		// It is within a packet yet, and links' places stay as they are.
		play(t, "behind a flush", j, []step{
			{1, piece("be", 1, 5), nil, api.OK},
			{1, piece("be", 6, 6), nil, api.OK},
			{1, piece("-e", 7, 7), told(whole(3, 4, 7)), api.OK},
			{0, piece("be", 8, 8), told(whole(8)), api.OK},
			{0, piece("be", 10, 10), nil, api.OK},
			{1, piece("be", 9, 9), told(whole(9), whole(10)), api.OK},
		})
		checkFlush(t, "flush again", j)
	}
}

// Nothing waits: nothing is gone through, and all stays as it is.
func TestFlushOfNothing(t *testing.T) {
	x := newPair(t, "nothing", true, 2, 3, 9)
	x.flush()
	x.feed(0, piece("b-", 0, 1))
	x.flush()
	x.flush()
	x.feed(1, piece("-e", 1, 2))
	x.flush()
	if out := x.feed(1, piece("-e", 2, 2)); !same(out, told(bad(2))) {
		t.Error(out)
	}
}

// A link's place stays: its numbers go on from what came by it, not from what was flushed.
func TestFlushLeavesLinks(t *testing.T) {
	j := made(t, true, 2, 9, 9)
	play(t, "links", j, []step{{0, piece("be", 4000, 1), nil, api.OK}})
	checkFlush(t, "links", j, loss(0, 4000), whole(1))
	play(t, "links", j, []step{{0, piece("be", 3999, 2), nil, api.OK}})
	checkFlush(t, "links", j, loss(4001, 4094), whole(2))
	play(t, "links", j, []step{
		{1, piece("be", 4000, 3), nil, api.OK},
		{1, piece("be", 3999, 4), nil, api.OK},
		{1, piece("be", 4000, 5), told(whole(5)), api.OK},
	})
}

// All against the model.

// letter is a call of Feed.
type letter struct {
	link int
	p    frag.Piece
}

// letters are all pieces of some numbers by some links, each of its own octets.
func letters(links int, does []string, numbers ...int) []letter {
	var out []letter
	for link := range links {
		for _, n := range numbers {
			for _, d := range does {
				out = append(out, letter{link, piece(d, n, byte(len(out)))})
			}
		}
	}
	return out
}

// words hands each row of so many letters to a pair, and flushes it.
func words(t *testing.T, l []letter, size, links, room, most int) {
	t.Helper()
	count := 1
	for range size {
		count *= len(l)
	}
	for word := range count {
		x := newPair(t, "words", true, links, room, most)
		for rest, i := word, 0; i < size; rest, i = rest/len(l), i+1 {
			y := l[rest%len(l)]
			x.feed(y.link, y.p)
		}
		x.flush()
		x.flush()
	}
}

func TestEachFewPieces(t *testing.T) {
	for _, room := range []int{1, 2} {
		words(t, letters(2, kinds(), 0, 1, 2), 3, 2, room, 2)
		words(t, letters(2, []string{"be", "--"}, 0, 1), 4, 2, room, 1)
	}
	words(t, letters(1, kinds(), 0, 1, 2), 3, 1, 1, 2)
	words(t, letters(3, []string{"be"}, 1, 2, 4), 4, 3, 2, 9)
	words(t, letters(2, []string{"b-", "-e"}, 0, 4095, 2), 3, 2, 2, 9)
}

// Pieces by chance: of whatever kind, about a place that goes on, by links of which
// some are later, and errors and Flushes among them.
func TestPiecesByChance(t *testing.T) {
	c := chance(1)
	for run := range 600 {
		short, links, room, most := run%2 == 0, 1+c.below(16), 1+c.below(20), 1+c.below(12)
		if run%3 == 0 {
			links = 1 + c.below(3)
		}
		x := newPair(t, "chance", short, links, room, most)
		at := 0
		if short {
			// Numbers go round on the way.
			at = 3900
		}
		for range 400 {
			at += c.below(3)
			link := c.below(links)
			place := max(at+c.below(9)-4-link%3*c.below(9), 0)
			if place <= x.m.last[link] && (!short || c.below(400) > 0) {
				// By that link it would come a whole round behind.
				continue
			}
			data := some(uint32(at), c.below(most+2))
			x.feed(link, piece(kinds()[c.below(4)], place%mod(short), data...))
			if c.below(50) == 0 {
				x.flush()
			}
			if c.below(30) == 0 {
				x.feed(c.below(40)-20, piece("be", -1, 7))
			}
		}
		x.flush()
	}
}

// Numbers of no order at all: rounds are lost all the time.
func TestNumbersByChance(t *testing.T) {
	c := chance(2)
	for range 40 {
		links, room := 1+c.below(4), 1+c.below(9)
		x := newPair(t, "numbers", true, links, room, 5)
		for range 100 {
			x.feed(c.below(links), piece(kinds()[c.below(4)], c.below(4096), some(uint32(room), c.below(4))...))
		}
		x.flush()
	}
}

// P24.4, P8: what comes over several links.

// sent gives packets of many lengths, and their pieces.
func sent(c *chance, short bool, many, most int) ([][]byte, [][]frag.Piece) {
	var packets [][]byte
	var pieces [][]frag.Piece
	next := 0
	for i := range many {
		data := some(uint32(i), c.below(40))
		l, behind, _ := frag.Split(short, next, most, data)
		for k, p := range l {
			b, _ := frag.Put(short, p)
			l[k], _ = frag.Get(short, b)
		}
		packets, pieces, next = append(packets, data), append(pieces, l), behind
	}
	return packets, pieces
}

// wholes gives the packets of events.
func wholes(l []join.Event) [][]byte {
	var out [][]byte
	for _, e := range l {
		if e.Kind == join.Whole {
			out = append(out, e.Data)
		}
	}
	return out
}

// checkPackets holds packets against what is wanted.
func checkPackets(t *testing.T, name string, got, want [][]byte) {
	t.Helper()
	if !slices.EqualFunc(got, want, bytes.Equal) {
		t.Errorf("%s: %d packets come, want %d", name, len(got), len(want))
	}
}

// carry hands pieces to a joiner as they come by links: each link's in order, but
// some links later than others. It gives all events.
func carry(t *testing.T, c *chance, j *join.Joiner, byLink [][]frag.Piece) []join.Event {
	t.Helper()
	var out []join.Event
	for {
		var open []int
		for link, l := range byLink {
			if len(l) > 0 {
				open = append(open, link)
			}
		}
		if len(open) == 0 {
			return out
		}
		// The links ahead are much earlier than the others.
		link := open[min(c.below(len(open)), c.below(len(open)))]
		some, errno := j.Feed(link, byLink[link][0])
		if errno != api.OK {
			t.Fatalf("Feed(%d, %v) = %d", link, byLink[link][0], errno)
		}
		byLink[link] = byLink[link][1:]
		out = append(out, some...)
	}
}

// Nothing lacks, and there is room: each packet comes, in order, and nothing else.
func TestAllPacketsCome(t *testing.T) {
	c := chance(3)
	for run := range 60 {
		short, links := run%2 == 0, 1+run%16
		packets, pieces := sent(&c, short, 100, 1+c.below(9))
		byLink := make([][]frag.Piece, links)
		for _, p := range slices.Concat(pieces...) {
			link := c.below(links)
			byLink[link] = append(byLink[link], p)
		}
		j := made(t, short, links, 4096, 64)
		events := carry(t, &c, j, byLink)
		events = append(events, j.Flush()...)
		if len(events) != len(packets) {
			t.Errorf("%d packets, %d events", len(packets), len(events))
		}
		checkPackets(t, "all", wholes(events), packets)
	}
}

// One link is later than all others by as much as there is room for.
func TestALateLink(t *testing.T) {
	c := chance(4)
	for _, short := range both() {
		for _, links := range []int{2, 3, 16} {
			packets, pieces := sent(&c, short, 300, 7)
			all := slices.Concat(pieces...)
			var first, last []letter
			for i, p := range all {
				if i%links == 0 {
					last = append(last, letter{0, p})
				} else {
					first = append(first, letter{i % links, p})
				}
			}
			for _, room := range []int{len(first), min(len(first)+1, 4096)} {
				j := made(t, short, links, room, 64)
				var events []join.Event
				for _, x := range slices.Concat(first, last) {
					some, _ := j.Feed(x.link, x.p)
					events = append(events, some...)
				}
				checkKept(t, "late", j, 0)
				if len(events) != len(packets) {
					t.Errorf("%d packets, %d events", len(packets), len(events))
				}
				checkPackets(t, "late", wholes(events), packets)
			}
			// With less room some are lost, and it is told.
			x := newPair(t, "less room", short, links, len(first)/2, 64)
			lost := false
			for _, y := range slices.Concat(first, last) {
				for _, e := range x.feed(y.link, y.p) {
					lost = lost || e.Kind == join.Loss
				}
			}
			if !lost {
				t.Error("there was too little room, but nothing was lost")
			}
		}
	}
}

// Some pieces lack: just those packets come, in order, of which no piece was lost.
func TestJustWholePacketsCome(t *testing.T) {
	c := chance(5)
	for run := range 120 {
		short, links := run%2 == 0, 1+run%16
		packets, pieces := sent(&c, short, 100, 1+c.below(9))
		byLink := make([][]frag.Piece, links)
		var want [][]byte
		for i, l := range pieces {
			all := true
			for _, p := range l {
				if c.below(1+run%40) == 1 {
					all = false
					continue
				}
				link := c.below(links)
				byLink[link] = append(byLink[link], p)
			}
			if all {
				want = append(want, packets[i])
			}
		}
		j := made(t, short, links, 4096, 64)
		events := carry(t, &c, j, byLink)
		events = append(events, j.Flush()...)
		checkPackets(t, "some", wholes(events), want)
		checkKept(t, "some", j, 0)
	}
}

// Each piece of a few packets is lost, one at a time, by each link it may go by.
func TestEachPieceLost(t *testing.T) {
	packets := [][]byte{{1, 2, 3}, {4}, {5, 6}, {7, 8, 9, 10}}
	var pieces []frag.Piece
	var owner []int
	for i, data := range packets {
		l, _, _ := frag.Split(true, len(pieces), 1, data)
		pieces = append(pieces, l...)
		for range l {
			owner = append(owner, i)
		}
	}
	for lost := range pieces {
		want := slices.Delete(slices.Clone(packets), owner[lost], owner[lost]+1)
		for way := range 1 << len(pieces) {
			j := made(t, true, 2, 16, 9)
			var events []join.Event
			for i, p := range pieces {
				if i == lost {
					continue
				}
				some, _ := j.Feed(way>>i&1, p)
				events = append(events, some...)
			}
			events = append(events, j.Flush()...)
			if !slices.EqualFunc(wholes(events), want, bytes.Equal) {
				t.Fatalf("the piece %d lost, by the links %b: %v", lost, way, events)
			}
		}
	}
}

// Numbers go round several times, over several links.
func TestManyRoundsOverLinks(t *testing.T) {
	c := chance(6)
	packets, pieces := sent(&c, true, 3000, 4)
	byLink := make([][]frag.Piece, 3)
	all := slices.Concat(pieces...)
	if len(all) < 2*4096 {
		t.Fatal(len(all))
	}
	for i, p := range all {
		byLink[i%3] = append(byLink[i%3], p)
	}
	j := made(t, true, 3, 64, 64)
	var events []join.Event
	// Three links, of which the last one is late by twenty pieces.
	for i := range len(byLink[0]) + 20 {
		for link, at := range []int{i, i, i - 20} {
			if at < 0 || at >= len(byLink[link]) {
				continue
			}
			some, _ := j.Feed(link, byLink[link][at])
			events = append(events, some...)
		}
	}
	if len(events) != len(packets) {
		t.Errorf("%d packets, %d events", len(packets), len(events))
	}
	checkPackets(t, "rounds", wholes(events), packets)
}

// K4 to K6, and what is kept.

// Errors change nothing, wherever a joiner is.
func TestErrorsChangeNothing(t *testing.T) {
	c := chance(7)
	for range 50 {
		x := newPair(t, "errors", true, 2, 3, 5)
		for i := range 100 {
			x.feed(c.below(2), piece(kinds()[c.below(4)], (i+c.below(4))%4096, some(uint32(i), c.below(4))...))
			for _, y := range []letter{{2, piece("be", 0, 9)}, {-1, piece("--", i, 9)}, {0, piece("be", -1, 9)}, {1, piece("be", 4096, 9)}, {7, piece("be", 4096)}} {
				x.feed(y.link, y.p)
			}
		}
		x.flush()
	}
}

// What is answered shares memory neither with what is answered of others nor with
// what is kept.
func TestAnswersAreNewMemory(t *testing.T) {
	for spoiled := range 3 {
		j := made(t, true, 2, 9, 99)
		for i := range 3 {
			n := 2*i + 1
			play(t, "memory", j, []step{{0, piece("b-", n, some(uint32(i), 5)...), nil, api.OK}, {0, piece("-e", n+1, some(uint32(i+9), 7)...), nil, api.OK}})
		}
		play(t, "memory", j, []step{{0, piece("b-", 7, 1, 2, 3), nil, api.OK}})
		out, _ := j.Feed(1, piece("be", 0, 7))
		if len(out) != 4 {
			t.Fatal(out)
		}
		spoil(out[spoiled+1].Data)
		for i := range 3 {
			want := slices.Concat(some(uint32(i), 5), some(uint32(i+9), 7))
			if i != spoiled && !bytes.Equal(out[i+1].Data, want) {
				t.Errorf("the event %d shares memory with the event %d", i, spoiled)
			}
		}
		play(t, "memory", j, []step{{1, piece("-e", 8, 4), told(whole(1, 2, 3, 4)), api.OK}})
	}
}

// No room of what is handed in, nor of other packets, is handed out.
func TestNoRoomIsHandedOut(t *testing.T) {
	for n := range 60 {
		j := made(t, true, 2, 9, 20)
		secret := slices.Concat(make([]byte, n), bytes.Repeat([]byte{0xa5}, 60))
		var out []join.Event
		for i := range 8 {
			p := frag.Piece{Begin: i%3 == 0, End: i%3 == 2, Number: i ^ 1, Data: secret[:n/3]}
			some, _ := j.Feed(i%2, p)
			out = append(out, some...)
		}
		for _, e := range append(out, j.Flush()...) {
			if bytes.Contains(e.Data[:cap(e.Data)], []byte{0xa5}) {
				t.Errorf("% x has room that was handed in", e.Data)
			}
		}
	}
}

// Joiners know nothing of each other.
func TestJoinersAreApart(t *testing.T) {
	a, b := newPair(t, "a", true, 2, 3, 9), newPair(t, "b", true, 2, 3, 9)
	c := chance(8)
	for i := range 300 {
		a.feed(c.below(2), piece(kinds()[c.below(4)], (i+c.below(3))%4096, byte(i)))
		if i%3 == 0 {
			b.feed(c.below(2), piece(kinds()[c.below(4)], (i/3+c.below(3))%4096, byte(i)))
		}
	}
	a.flush()
	b.flush()
}

// Of a piece that waits no more is kept than tells what becomes of it.
func TestLittleIsKept(t *testing.T) {
	great := make([]byte, 1<<20)
	j := made(t, false, 2, 4096, 1)
	before := used()
	for i := range 1000 {
		if _, errno := j.Feed(0, frag.Piece{Begin: true, End: true, Number: i + 1, Data: great}); errno != api.OK {
			t.Fatal(errno)
		}
	}
	if grown := used() - before; grown > 64<<20 {
		t.Errorf("%d octets are kept of pieces that are all too long", grown)
	}
	checkKept(t, "little", j, 1000)
	want := told(whole())
	for range 1000 {
		want = append(want, long())
	}
	play(t, "little", j, []step{{1, piece("be", 0), want, api.OK}})
	runtime.KeepAlive(great)
}

// used tells how much memory is used.
func used() int {
	runtime.GC()
	var m runtime.MemStats
	runtime.ReadMemStats(&m)
	return int(m.HeapAlloc)
}
