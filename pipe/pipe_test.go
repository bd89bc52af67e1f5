package pipe_test

import (
	"bytes"
	"errors"
	"math"
	"runtime"
	"slices"
	"strconv"
	"strings"
	"sync"
	"sync/atomic"
	"testing"
	"time"

	"marline/api"
	"marline/pipe"
)

// chance gives numbers that look like chance, but are the same in every run.
type chance uint32

func (c *chance) below(n int) int {
	*c = *c*1664525 + 1013904223
	return int(uint64(*c) * uint64(n) >> 32)
}

// made gives a queue that may be.
func made[T any](t *testing.T, room int) *pipe.Queue[T] {
	t.Helper()
	q, errno := pipe.New[T](room)
	if q == nil || errno != api.OK {
		t.Fatalf("New(%d) = %v, %d", room, q, errno)
	}
	return q
}

// model is a queue that goes by the chapter's words.
type model[T any] struct {
	room   int
	things []T
	closed bool
}

func (m *model[T]) put(x T) api.Errno {
	switch {
	case m.closed:
		return api.ErrNone
	case len(m.things) == m.room:
		return api.ErrFull
	}
	m.things = append(m.things, x)
	return api.OK
}

func (m *model[T]) take() (T, api.Errno) {
	if len(m.things) == 0 {
		var none T
		return none, api.ErrNone
	}
	x := m.things[0]
	m.things = slices.Clone(m.things[1:])
	return x, api.OK
}

// pair holds a queue against the model.
type pair[T comparable] struct {
	t    *testing.T
	name string
	q    *pipe.Queue[T]
	m    *model[T]
}

func newPair[T comparable](t *testing.T, name string, room int) pair[T] {
	t.Helper()
	return pair[T]{t, name, made[T](t, room), &model[T]{room: room}}
}

func (p pair[T]) put(x T) {
	p.t.Helper()
	if errno, want := p.q.Put(x), p.m.put(x); errno != want {
		p.t.Errorf("%s: Put(%v) = %d, want %d", p.name, x, errno, want)
	}
	p.len()
}

func (p pair[T]) take() {
	p.t.Helper()
	x, errno := p.q.Take()
	if want, wantErrno := p.m.take(); x != want || errno != wantErrno {
		p.t.Errorf("%s: Take() = %v, %d, want %v, %d", p.name, x, errno, want, wantErrno)
	}
	p.len()
}

func (p pair[T]) close() {
	p.t.Helper()
	p.q.Close()
	p.m.closed = true
	p.len()
}

func (p pair[T]) len() {
	p.t.Helper()
	if n := p.q.Len(); n != len(p.m.things) {
		p.t.Errorf("%s: Len() = %d, want %d", p.name, n, len(p.m.things))
	}
}

// empty takes all that is there, and one more.
func (p pair[T]) empty() {
	p.t.Helper()
	for range len(p.m.things) + 1 {
		p.take()
	}
}

// used tells how much memory is used.
func used() int {
	runtime.GC()
	var m runtime.MemStats
	runtime.ReadMemStats(&m)
	return int(m.HeapAlloc)
}

// wrongRooms are those that no queue, and no Pump, may have.
func wrongRooms() []int {
	return []int{math.MinInt, -1 << 32, -1<<32 + 1, -65536, -2, -1, 0, 1<<16 + 1, 1<<16 + 2, 1 << 17, 1 << 32, 1<<32 + 1, math.MaxInt}
}

// P25.1: New.

func checkNew[T any](t *testing.T, room int, want api.Errno) {
	t.Helper()
	q, errno := pipe.New[T](room)
	if errno != want || (q == nil) != (want != api.OK) {
		t.Errorf("New[%T](%d) = %v, %d, want %d", *new(T), room, q, errno, want)
	}
}

func checkNewOfEachKind(t *testing.T, room int, want api.Errno) {
	t.Helper()
	checkNew[int](t, room, want)
	checkNew[string](t, room, want)
	checkNew[struct{}](t, room, want)
	checkNew[error](t, room, want)
	checkNew[func()](t, room, want)
	checkNew[api.Event](t, room, want)
}

func TestNewOfEachEdge(t *testing.T) {
	for _, room := range wrongRooms() {
		checkNewOfEachKind(t, room, api.ErrArg)
	}
	for _, room := range []int{1, 2, 3, 255, 256, 4096, 1<<16 - 1, 1 << 16} {
		checkNewOfEachKind(t, room, api.OK)
	}
}

func TestNewIsOpenAndHasNothing(t *testing.T) {
	for _, room := range []int{1, 2, 1 << 16} {
		p := newPair[int](t, "new", room)
		p.len()
		p.take()
		p.put(7)
		p.take()
		p.take()
	}
}

// P25.1: Put, Take, Close, Len.

func TestKnownQueue(t *testing.T) {
	q := made[int](t, 1)
	if errno := q.Put(7); errno != api.OK {
		t.Error(errno)
	}
	if errno := q.Put(8); errno != api.ErrFull {
		t.Error(errno)
	}
	if x, errno := q.Take(); x != 7 || errno != api.OK {
		t.Error(x, errno)
	}
	if x, errno := q.Take(); x != 0 || errno != api.ErrNone {
		t.Error(x, errno)
	}
}

// Each row of a few calls.
func TestEachShortRow(t *testing.T) {
	const calls = 9
	rows := 1
	for range calls {
		rows *= 3
	}
	for room := 1; room <= 3; room++ {
		for row := range rows {
			p := newPair[int](t, "room "+strconv.Itoa(room)+", row "+strconv.Itoa(row), room)
			rest := row
			for i := range calls {
				switch rest % 3 {
				case 0:
					p.put(i + 1)
				case 1:
					p.take()
				case 2:
					p.close()
				}
				rest /= 3
			}
			p.empty()
		}
	}
}

func TestLongRowsByChance(t *testing.T) {
	c := chance(1)
	for _, room := range []int{1, 2, 3, 7, 64, 1000} {
		p := newPair[int](t, "room "+strconv.Itoa(room), room)
		for i := range 20000 {
			// At times more are put, at times more are taken.
			if c.below(10) < 3+4*(i/1000%2) {
				p.put(i)
			} else {
				p.take()
			}
		}
		p.close()
		for i := range 100 {
			p.put(i)
		}
		p.empty()
	}
}

// There is room for just so many, however many went ahead.
func TestEachRoomIsFull(t *testing.T) {
	rooms := []int{1<<16 - 1, 1 << 16}
	for room := range 70 {
		rooms = append(rooms, room+1)
	}
	for _, room := range rooms {
		q := made[int](t, room)
		first, next := 0, 0
		for _, taken := range []int{1, room / 2, room, room, 1} {
			for q.Len() < room {
				if errno := q.Put(next); errno != api.OK {
					t.Fatalf("room %d: Put of one to %d others: %d", room, q.Len(), errno)
				}
				next++
			}
			if errno := q.Put(-1); errno != api.ErrFull || q.Len() != room {
				t.Errorf("room %d: Put = %d, Len = %d", room, errno, q.Len())
			}
			for range min(taken, room) {
				if x, errno := q.Take(); x != first || errno != api.OK {
					t.Fatalf("room %d: Take() = %d, %d, want %d", room, x, errno, first)
				}
				first++
			}
			if n := q.Len(); n != next-first {
				t.Errorf("room %d: Len() = %d, want %d", room, n, next-first)
			}
		}
	}
}

// K2: of a queue that is closed and full the first is told.
func TestPutTellsTheFirstError(t *testing.T) {
	for room := 1; room <= 4; room++ {
		for there := 0; there <= room; there++ {
			p := newPair[string](t, "closed", room)
			for i := range there {
				p.put(strconv.Itoa(i))
			}
			if there == room {
				p.put("full")
			}
			p.close()
			if errno := p.q.Put("none"); errno != api.ErrNone {
				t.Errorf("room %d, %d there: Put = %d", room, there, errno)
			}
			p.empty()
			if errno := p.q.Put("none"); errno != api.ErrNone {
				t.Errorf("room %d, closed, all taken: Put = %d", room, errno)
			}
			p.empty()
		}
	}
}

// K4: what answers an error changes nothing.
func TestErrorsChangeNothing(t *testing.T) {
	p := newPair[int](t, "errors", 3)
	for range 10 {
		p.take()
	}
	for i := range 3 {
		p.put(i)
	}
	for range 10 {
		p.put(9)
	}
	p.empty()
	for range 10 {
		p.take()
	}
	p.put(4)
	p.close()
	for range 10 {
		p.put(9)
	}
	p.empty()
}

func TestCloseKeepsWhatIsThere(t *testing.T) {
	for there := range 6 {
		p := newPair[int](t, strconv.Itoa(there)+" there", 5)
		for i := range there {
			p.put(i + 1)
		}
		for range 3 {
			p.close()
		}
		for range there {
			p.put(9)
			p.take()
			p.close()
		}
		p.take()
		p.take()
	}
}

// K3: beside ErrNone is the zero thing, whatever was there.
func checkNone[T comparable](t *testing.T, x T) {
	t.Helper()
	p := newPair[T](t, "none", 2)
	p.take()
	p.put(x)
	p.put(x)
	p.put(x)
	p.empty()
	p.close()
	p.put(x)
	p.empty()
}

func TestTakeOfNone(t *testing.T) {
	checkNone(t, 7)
	checkNone(t, "a")
	checkNone(t, true)
	checkNone(t, 1.5)
	checkNone(t, struct{}{})
	checkNone(t, [3]byte{1, 2, 3})
	checkNone(t, new(int))
	checkNone(t, errors.New("a"))
	checkNone[any](t, 7)
	checkNone(t, api.Config{PFC: true, MRU: 64})
	checkNone(t, make(chan int))
}

// What is nothing, by its kind, is a thing, too.
func TestThingsThatAreNothing(t *testing.T) {
	p := newPair[*int](t, "nil pointers", 3)
	for range 4 {
		p.put(nil)
	}
	p.empty()
	e := newPair[error](t, "nil errors", 3)
	for range 4 {
		e.put(nil)
	}
	e.empty()
	s := newPair[struct{}](t, "no fields", 3)
	for range 4 {
		s.put(struct{}{})
	}
	s.empty()
}

func TestThingsThatAreNotCompared(t *testing.T) {
	q := made[[]byte](t, 2)
	q.Put([]byte{1, 2})
	q.Put(nil)
	if x, errno := q.Take(); !bytes.Equal(x, []byte{1, 2}) || errno != api.OK {
		t.Error(x, errno)
	}
	if x, errno := q.Take(); x != nil || errno != api.OK {
		t.Error(x, errno)
	}
	f := made[func() int](t, 2)
	f.Put(func() int { return 7 })
	if x, errno := f.Take(); errno != api.OK || x() != 7 {
		t.Error(errno)
	}
	if x, errno := f.Take(); x != nil || errno != api.ErrNone {
		t.Error(errno)
	}
}

// great is a thing that no channel takes itself.
type great [1 << 17]byte

func TestGreatThings(t *testing.T) {
	p := newPair[great](t, "great", 2)
	p.put(great{1, 1<<17 - 1: 2})
	p.put(great{3})
	p.put(great{4})
	p.empty()
}

// K5: what is put, and what is taken, is no more the thing that is handed in.
func TestThingsAreCopied(t *testing.T) {
	q := made[[3]int](t, 3)
	x := [3]int{1, 2, 3}
	q.Put(x)
	x[0] = 9
	q.Put(x)
	y, _ := q.Take()
	if y != [3]int{1, 2, 3} {
		t.Error(y)
	}
	y[0] = 8
	if z, _ := q.Take(); z != [3]int{9, 2, 3} {
		t.Error(z)
	}
}

// What was taken goes; a queue keeps no more than what is there.
func TestWhatIsTakenGoes(t *testing.T) {
	q := made[[]byte](t, 1<<16)
	before := used()
	for range 100 {
		q.Put(make([]byte, 1<<20))
	}
	if grown := used() - before; grown < 50<<20 {
		t.Errorf("of what is there just %d octets are kept", grown)
	}
	for range 100 {
		q.Take()
	}
	if grown := used() - before; grown > 10<<20 {
		t.Errorf("of what was taken %d octets are kept", grown)
	}
	runtime.KeepAlive(q)
}

func TestRoomIsNoMemory(t *testing.T) {
	before := used()
	q := made[[1 << 14]byte](t, 1<<16)
	if grown := used() - before; grown > 10<<20 {
		t.Errorf("a queue of nothing has %d octets", grown)
	}
	runtime.KeepAlive(q)
}

func TestQueuesAreApart(t *testing.T) {
	a, b := newPair[int](t, "a", 2), newPair[int](t, "b", 3)
	for i := range 20 {
		a.put(i)
		b.put(-i)
		if i%3 == 0 {
			b.take()
		}
		if i == 10 {
			a.close()
		}
	}
	a.empty()
	b.empty()
}

// P25.1, by several goroutines at the same time.

// beside runs so many at the same time, and waits for them.
func beside(many int, do func(i int)) {
	var all sync.WaitGroup
	for i := range many {
		all.Add(1)
		go func() {
			defer all.Done()
			do(i)
		}()
	}
	all.Wait()
}

// Of many that put one each there is room for just so many.
func TestManyPutAtOnce(t *testing.T) {
	for _, room := range []int{1, 2, 5, 16, 17} {
		for range 200 {
			q := made[int](t, room)
			var put, full atomic.Int64
			beside(16, func(i int) {
				switch q.Put(i) {
				case api.OK:
					put.Add(1)
				case api.ErrFull:
					full.Add(1)
				}
			})
			want := int64(min(room, 16))
			if put.Load() != want || full.Load() != 16-want || q.Len() != int(want) {
				t.Fatalf("room %d: %d were put, %d found no room, %d are there", room, put.Load(), full.Load(), q.Len())
			}
		}
	}
}

// Of many that take one each just so many find one.
func TestManyTakeAtOnce(t *testing.T) {
	for _, there := range []int{0, 1, 5, 16, 17} {
		for range 200 {
			q := made[int](t, 20)
			for i := range there {
				q.Put(i)
			}
			var sum, none atomic.Int64
			beside(16, func(int) {
				x, errno := q.Take()
				sum.Add(int64(x))
				if errno == api.ErrNone {
					none.Add(1)
				}
			})
			taken := min(there, 16)
			if sum.Load() != int64(taken*(taken-1)/2) || none.Load() != int64(16-taken) || q.Len() != there-taken {
				t.Fatalf("%d there: a sum of %d, %d found none, %d are there yet", there, sum.Load(), none.Load(), q.Len())
			}
		}
	}
}

// stamp is a thing of which it is known who put it, and as which one.
type stamp struct{ who, at int }

// putAll puts so many things, each as soon as there is room.
func putAll(t *testing.T, q *pipe.Queue[stamp], who, many int) {
	for at := range many {
		for {
			errno := q.Put(stamp{who, at})
			if errno == api.OK {
				break
			}
			if errno != api.ErrFull {
				t.Errorf("Put = %d", errno)
				return
			}
			runtime.Gosched()
		}
	}
}

// takeAll takes till left is none.
func takeAll(t *testing.T, q *pipe.Queue[stamp], room int, left *atomic.Int64) []stamp {
	var out []stamp
	for left.Load() > 0 {
		if n := q.Len(); n < 0 || n > room {
			t.Errorf("Len() = %d", n)
		}
		x, errno := q.Take()
		switch errno {
		case api.OK:
			left.Add(-1)
			out = append(out, x)
		case api.ErrNone:
			if x != (stamp{}) {
				t.Errorf("Take() = %v, %d", x, errno)
			}
			runtime.Gosched()
		default:
			t.Errorf("Take() = %d", errno)
		}
	}
	return out
}

// checkStamps holds that all of each who come once, to each who takes in order.
func checkStamps(t *testing.T, name string, got [][]stamp, who, many int) {
	t.Helper()
	times := map[stamp]int{}
	for _, l := range got {
		last := slices.Repeat([]int{-1}, who)
		for _, x := range l {
			times[x]++
			if x.at <= last[x.who] {
				t.Errorf("%s: of %d came %d behind %d", name, x.who, x.at, last[x.who])
			}
			last[x.who] = x.at
		}
	}
	for x, n := range times {
		if n != 1 {
			t.Errorf("%s: %v came %d times", name, x, n)
		}
	}
	if len(times) != who*many {
		t.Errorf("%s: %d things came, want %d", name, len(times), who*many)
	}
}

func TestManyPutAndTake(t *testing.T) {
	const many = 2000
	for _, room := range []int{1, 2, 7, 64, 1 << 16} {
		for _, x := range []struct{ put, take int }{{1, 4}, {4, 1}, {4, 4}} {
			name := "room " + strconv.Itoa(room) + ", " + strconv.Itoa(x.put) + " put, " + strconv.Itoa(x.take) + " take"
			q := made[stamp](t, room)
			got := make([][]stamp, x.take)
			var left atomic.Int64
			left.Store(int64(x.put * many))
			beside(x.put+x.take, func(i int) {
				if i < x.put {
					putAll(t, q, i, many)
				} else {
					got[i-x.put] = takeAll(t, q, room, &left)
				}
			})
			checkStamps(t, name, got, x.put, many)
			if _, errno := q.Take(); errno != api.ErrNone || q.Len() != 0 {
				t.Errorf("%s: %d are there yet", name, q.Len())
			}
		}
	}
}

// Once Close has answered nothing is put any more, also by who is about to.
func TestCloseHoldsForAll(t *testing.T) {
	for range 300 {
		q := made[int](t, 1<<16)
		var put, running atomic.Int64
		var all sync.WaitGroup
		for range 4 {
			all.Add(1)
			go func() {
				defer all.Done()
				running.Add(1)
				for q.Put(1) == api.OK {
					put.Add(1)
				}
			}()
		}
		for running.Load() < 4 {
			runtime.Gosched()
		}
		beside(3, func(int) { q.Close() })
		there := q.Len()
		all.Wait()
		if q.Len() != there || put.Load() != int64(there) && there < 1<<16 {
			t.Fatalf("%d were there as it was closed, %d are there, %d were put", there, q.Len(), put.Load())
		}
	}
}

// P25.3.

func TestOnePutsAndOneTakes(t *testing.T) {
	const many = 20000
	for _, room := range []int{1, 2, 3, 64, 1 << 16} {
		for range 3 {
			q := made[stamp](t, room)
			var got []stamp
			var left atomic.Int64
			left.Store(many)
			beside(2, func(i int) {
				if i == 0 {
					putAll(t, q, 0, many)
					q.Close()
				} else {
					got = takeAll(t, q, room, &left)
				}
			})
			for i, x := range got {
				if x.at != i {
					t.Fatalf("room %d: %d came as the %d. thing", room, x.at, i)
				}
			}
			checkStamps(t, "room "+strconv.Itoa(room), [][]stamp{got}, 1, many)
		}
	}
}

// P25.2.

// letters gives for each number so many things, each of which tells where it stands.
func letters(sizes []int) func(i int) []string {
	return func(i int) []string {
		var out []string
		for k := range sizes[i] {
			out = append(out, strconv.Itoa(i)+"."+strconv.Itoa(k))
		}
		return out
	}
}

// upTo gives the numbers from 0 on, so many.
func upTo(n int) []int {
	out := make([]int, n)
	for i := range out {
		out[i] = i
	}
	return out
}

// behindOneAnother is what comes of chunks that are worked on one behind the other, and
// how many of them that takes.
func behindOneAnother(sizes []int, most int) ([]string, int) {
	var out []string
	begun := 0
	for begun < len(sizes) && len(out) < most {
		out = append(out, letters(sizes)(begun)...)
		begun++
	}
	return out[:min(most, len(out))], begun
}

// checkPump holds a Pump of chunks that have so many things each against the words: what
// it answers, and which chunks are worked on.
func checkPump(t *testing.T, sizes []int, room, most int) {
	t.Helper()
	var begun []int
	work := func(i int) []string {
		begun = append(begun, i)
		return letters(sizes)(i)
	}
	got, errno := pipe.Pump(upTo(len(sizes)), work, room, most)
	want, wantBegun := behindOneAnother(sizes, most)
	if !slices.Equal(got, want) || errno != api.OK {
		t.Errorf("Pump(sizes %v, room %d, most %d) = %v, %d, want %v", sizes, room, most, got, errno, want)
	}
	if !slices.Equal(begun, upTo(wantBegun)) {
		t.Errorf("Pump(sizes %v, room %d, most %d) worked on %v, want the first %d", sizes, room, most, begun, wantBegun)
	}
}

func TestPumpOfEachEdge(t *testing.T) {
	begun := 0
	work := func(s string) []string {
		begun++
		return []string{s, s}
	}
	check := func(room, most int) {
		t.Helper()
		if l, errno := pipe.Pump([]string{"a", "b"}, work, room, most); len(l) != 0 || errno != api.ErrArg || begun != 0 {
			t.Errorf("Pump(room %d, most %d) = %v, %d; %d chunks were worked on", room, most, l, errno, begun)
		}
	}
	wrongMosts := []int{math.MinInt, -1 << 32, -1 << 30, -2, -1, 1<<30 + 1, 1<<30 + 2, 1 << 31, 1 << 32, 1<<32 + 1, math.MaxInt}
	for _, room := range append(wrongRooms(), 1, 2, 1<<16) {
		for _, most := range wrongMosts {
			check(room, most)
		}
	}
	for _, room := range wrongRooms() {
		for _, most := range []int{0, 1, 2, 1<<30 - 1, 1 << 30} {
			check(room, most)
		}
	}
	for _, room := range []int{1, 2, 1<<16 - 1, 1 << 16} {
		for _, most := range []int{0, 1, 2, 3, 4, 5, 1 << 16, 1<<30 - 1, 1 << 30} {
			checkPump(t, []int{2, 2}, room, most)
		}
	}
}

func TestKnownPumps(t *testing.T) {
	twice := func(s string) []string { return []string{s, s} }
	for _, x := range []struct {
		chunks     []string
		room, most int
		want       string
	}{
		{[]string{"a", "b"}, 1, 9, "aabb"},
		{[]string{"a", "b"}, 64, 3, "aab"},
		{[]string{"a", "b"}, 1, 2, "aa"},
		{[]string{"a", "b"}, 1, 1, "a"},
		{[]string{"a", "b"}, 1, 0, ""},
		{[]string{"a", "", "b"}, 2, 6, "aabb"},
		{[]string{"a", "", "b"}, 2, 5, "aab"},
		{nil, 1, 5, ""},
		{[]string{}, 1, 0, ""},
	} {
		got, errno := pipe.Pump(x.chunks, twice, x.room, x.most)
		if strings.Join(got, "") != x.want || errno != api.OK {
			t.Errorf("Pump(%q, %d, %d) = %q, %d, want %q", x.chunks, x.room, x.most, got, errno, x.want)
		}
	}
}

// Each list of a few chunks of a few things.
func TestEachFewChunks(t *testing.T) {
	lists := [][]int{nil}
	for at := 0; at < len(lists); at++ {
		if len(lists[at]) < 4 {
			for size := range 4 {
				lists = append(lists, append(slices.Clone(lists[at]), size))
			}
		}
	}
	for _, sizes := range lists {
		sum := 0
		for _, size := range sizes {
			sum += size
		}
		for _, room := range []int{1, 2, 5} {
			for most := range sum + 2 {
				checkPump(t, sizes, room, most)
			}
			checkPump(t, sizes, room, 1<<30)
		}
	}
}

func TestManyChunksByChance(t *testing.T) {
	c := chance(2)
	for range 400 {
		sizes := make([]int, c.below(200))
		for i := range sizes {
			sizes[i] = c.below(1 + c.below(40))
		}
		for _, room := range []int{1, 2, 1 + c.below(30), 1 + c.below(1000)} {
			checkPump(t, sizes, room, c.below(2500))
		}
	}
	checkPump(t, slices.Repeat([]int{1}, 1<<17), 1<<16, 1<<30)
	checkPump(t, []int{1 << 17, 3}, 1<<16, 1<<30)
	checkPump(t, []int{1 << 17, 3}, 1, 1<<17)
}

// Behind the first most things no chunk is worked on, however late it may be told, and
// also if what is behind has nothing, so that it never finds the channel full.
func TestNoChunkBehindMost(t *testing.T) {
	nothing := make([]int, 1000)
	for _, room := range []int{1, 64, 1 << 16} {
		for most := range 4 {
			for range 100 {
				checkPump(t, slices.Concat(slices.Repeat([]int{1}, most), nothing), room, most)
				checkPump(t, slices.Concat(slices.Repeat([]int{1}, most+10), nothing), room, most)
				checkPump(t, slices.Concat([]int{0, 0, most + 2}, nothing), room, most)
			}
		}
	}
}

// A chunk that has more things than anybody takes holds nobody up.
func TestOneChunkOfTooMany(t *testing.T) {
	for _, room := range []int{1, 2, 100, 1 << 16} {
		for _, most := range []int{1, 2, 99, 100, 101} {
			for _, size := range []int{most, most + 1, most + room - 1, most + room, most + room + 1, most + room + 2, most + 2*room + 9} {
				checkPump(t, []int{size, 5}, room, most)
				checkPump(t, []int{1, size, 5}, room, most)
			}
		}
	}
}

// The chunk behind would never end: nobody waits for it.
func TestNothingMoreIsWaitedFor(t *testing.T) {
	hold := make(chan bool)
	work := func(i int) []int {
		if i > 2 {
			<-hold
		}
		return []int{i, i}
	}
	for most := range 7 {
		for range 100 {
			got, errno := pipe.Pump(upTo(9), work, 8, most)
			if want := []int{0, 0, 1, 1, 2, 2}; !slices.Equal(got, want[:most]) || errno != api.OK {
				t.Errorf("most %d: %v, %d", most, got, errno)
			}
		}
	}
}

// me tells which goroutine this is.
func me() string {
	b := make([]byte, 64)
	return strings.Fields(string(b[:runtime.Stack(b, false)]))[1]
}

func TestWorkIsInAnotherGoroutine(t *testing.T) {
	var by []string
	_, errno := pipe.Pump(upTo(50), func(i int) []int {
		by = append(by, me())
		return []int{i}
	}, 3, 99)
	if len(by) != 50 || errno != api.OK {
		t.Fatal(by, errno)
	}
	if one := slices.Compact(by); len(one) != 1 || one[0] == me() {
		t.Errorf("worked by %v, called by %s", one, me())
	}
}

// One chunk at a time; and nothing is worked on any more when Pump has answered.
func TestWorkIsOneAtATime(t *testing.T) {
	for _, most := range []int{0, 1, 20, 150, 1000} {
		var now, begun atomic.Int64
		_, errno := pipe.Pump(upTo(100), func(i int) []int {
			if n := now.Add(1); n != 1 {
				t.Errorf("%d at a time", n)
			}
			begun.Add(1)
			runtime.Gosched()
			now.Add(-1)
			return []int{i, i}
		}, 5, most)
		was := begun.Load()
		if now.Load() != 0 || errno != api.OK {
			t.Errorf("%d are worked on yet, %d", now.Load(), errno)
		}
		time.Sleep(time.Millisecond)
		if begun.Load() != was {
			t.Errorf("%d chunks were begun, and then %d", was, begun.Load())
		}
	}
}

func TestNoGoroutineIsLeft(t *testing.T) {
	before := runtime.NumGoroutine()
	for i := range 500 {
		checkPump(t, []int{3, 0, 100, 7, 1}, 1+i%9, i%120)
	}
	// One that has told that it ends may be there for a moment yet.
	for wait := 0; runtime.NumGoroutine() > before && wait < 1000; wait++ {
		time.Sleep(time.Millisecond)
	}
	if n := runtime.NumGoroutine(); n > before {
		t.Errorf("%d goroutines are left", n-before)
	}
}

// Pump answers behind its goroutine. Where just one runs at a time, one that wasn't
// waited for has no chance to end ahead; one that was waited for has told that it ends,
// and is as good as always gone.
func TestPumpAnswersBehindItsGoroutine(t *testing.T) {
	defer runtime.GOMAXPROCS(runtime.GOMAXPROCS(1))
	late := 0
	for range 200 {
		before := runtime.NumGoroutine()
		checkPump(t, []int{50, 50}, 1, 3)
		if runtime.NumGoroutine() > before {
			late++
		}
	}
	if late > 100 {
		t.Errorf("%d times of 200 Pump answered ahead of its goroutine's end", late)
	}
}

func TestPumpsBesideOneAnother(t *testing.T) {
	beside(20, func(i int) {
		for most := range 50 {
			checkPump(t, []int{i, 0, 1, 40, i}, 1+i%5, most)
		}
	})
}

// Work may pump, too.
func TestPumpWithinPump(t *testing.T) {
	digits := func(i int) []int { return []int{10 * i, 10*i + 1} }
	got, errno := pipe.Pump(upTo(5), func(i int) []int {
		l, _ := pipe.Pump(upTo(i), digits, 2, 3)
		return l
	}, 1, 99)
	want := []int{0, 1, 0, 1, 10, 0, 1, 10, 0, 1, 10}
	if !slices.Equal(got, want) || errno != api.OK {
		t.Errorf("%v, %d, want %v", got, errno, want)
	}
}

// P9: a queue's things come through by work that takes them.
func TestPumpOfAQueue(t *testing.T) {
	p := made[int](t, 10)
	for i := range 10 {
		p.Put(i)
	}
	p.Close()
	got, errno := pipe.Pump(upTo(20), func(int) []int {
		x, errno := p.Take()
		if errno != api.OK {
			return nil
		}
		return []int{x}
	}, 3, 99)
	if !slices.Equal(got, upTo(10)) || errno != api.OK {
		t.Errorf("%v, %d", got, errno)
	}
}

// K5: nothing is changed, kept, or read behind a list's length.

func TestPumpChangesNoChunks(t *testing.T) {
	all := [][]byte{{1}, {2, 3}, {4}, {9, 9}, {9}}
	chunks := all[:3]
	got, errno := pipe.Pump(chunks, func(c []byte) []byte { return c }, 1, 99)
	if !bytes.Equal(got, []byte{1, 2, 3, 4}) || errno != api.OK {
		t.Errorf("% x, %d", got, errno)
	}
	got[0], got[1] = 7, 7
	if !bytes.Equal(slices.Concat(all...), []byte{1, 2, 3, 4, 9, 9, 9}) || len(chunks) != 3 {
		t.Errorf("% x", all)
	}
}

// What work keeps is neither handed out nor changed, nor is what lies behind its length.
func TestPumpAnswersNewMemory(t *testing.T) {
	kept := []byte{1, 2, 3, 0xa5, 0xa5, 0xa5}
	for n := range 4 {
		for _, most := range []int{n, 99} {
			got, errno := pipe.Pump([]int{0}, func(int) []byte { return kept[:n] }, 2, most)
			if !bytes.Equal(got, kept[:n]) || errno != api.OK || bytes.Contains(got[:cap(got)], []byte{0xa5}) {
				t.Errorf("% x (room % x), %d", got, got[:cap(got)], errno)
			}
			for i := range got {
				got[i] = 7
			}
			_ = append(got, 7)
			if !bytes.Equal(kept, []byte{1, 2, 3, 0xa5, 0xa5, 0xa5}) {
				t.Fatalf("% x", kept)
			}
		}
	}
}

// What work answers it may use again for the next chunk, however many are waited for.
func TestWorkThatUsesItsMemoryAgain(t *testing.T) {
	for _, room := range []int{1, 4, 1000} {
		buffer := make([]int, 3)
		got, errno := pipe.Pump(upTo(200), func(i int) []int {
			for k := range buffer {
				buffer[k] = 3*i + k
			}
			return buffer
		}, room, 1000)
		if !slices.Equal(got, upTo(600)) || errno != api.OK {
			t.Errorf("room %d: %v, %d", room, got, errno)
		}
	}
}

func TestPumpKeepsNothing(t *testing.T) {
	before := used()
	got, errno := pipe.Pump(upTo(100), func(int) [][]byte { return [][]byte{make([]byte, 1<<20)} }, 50, 60)
	if len(got) != 60 || errno != api.OK {
		t.Fatal(len(got), errno)
	}
	got = nil
	if grown := used() - before; grown > 10<<20 {
		t.Errorf("%d octets are kept", grown)
	}
}

func TestPumpOfGreatThings(t *testing.T) {
	got, errno := pipe.Pump([]great{{1}, {2}, {3}}, func(x great) []great { return []great{x, {9, x[0]}} }, 2, 5)
	if !slices.Equal(got, []great{{1}, {9, 1}, {2}, {9, 2}, {3}}) || errno != api.OK {
		t.Error(len(got), errno)
	}
}

// K6: how goroutines run plays no part.
func TestPumpAnswersTheSame(t *testing.T) {
	defer runtime.GOMAXPROCS(runtime.GOMAXPROCS(0))
	for _, procs := range []int{1, 2, 8} {
		runtime.GOMAXPROCS(procs)
		c := chance(3)
		for i := range 300 {
			sizes := []int{3, 0, 5, 1, 0, 0, 7, 2}
			var begun []int
			got, errno := pipe.Pump(upTo(len(sizes)), func(i int) []string {
				for range c.below(5) {
					runtime.Gosched()
				}
				begun = append(begun, i)
				return letters(sizes)(i)
			}, 1+i%4, i%20)
			want, wantBegun := behindOneAnother(sizes, i%20)
			if !slices.Equal(got, want) || errno != api.OK || !slices.Equal(begun, upTo(wantBegun)) {
				t.Errorf("%d at a time: %v, %d, worked on %v, want %v, %d", procs, got, errno, begun, want, wantBegun)
			}
		}
	}
}

// K7: work that panics gives nothing of that chunk.
func TestWorkThatPanics(t *testing.T) {
	for _, room := range []int{1, 9} {
		got, errno := pipe.Pump(upTo(9), func(i int) []int {
			if i%3 == 1 {
				panic(i)
			}
			return []int{i, i}
		}, room, 7)
		if !slices.Equal(got, []int{0, 0, 2, 2, 3, 3, 5}) || errno != api.OK {
			t.Errorf("%v, %d", got, errno)
		}
		got, errno = pipe.Pump(upTo(9), func(i int) []int { return []int{i / (i - i)} }, room, 7)
		if len(got) != 0 || errno != api.OK {
			t.Errorf("%v, %d", got, errno)
		}
	}
}

// Pump ends also if work ends its goroutine: with what came ahead.
func TestWorkThatEndsItsGoroutine(t *testing.T) {
	for last := range 5 {
		got, errno := pipe.Pump(upTo(9), func(i int) []int {
			if i == last {
				runtime.Goexit()
			}
			return []int{i}
		}, 2, 99)
		if !slices.Equal(got, upTo(last)) || errno != api.OK {
			t.Errorf("%v, %d", got, errno)
		}
	}
}
