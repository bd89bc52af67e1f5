package zero_test

import (
	"bytes"
	"strings"
	"testing"

	"marline/api"
	"marline/bits"
	"marline/zero"
)

// chance gives numbers that look like chance, but are the same in every run.
type chance uint32

func (c *chance) below(n int) int {
	*c = *c*1664525 + 1013904223
	return int(uint64(*c) * uint64(n) >> 32)
}

// ones gives n bits of which one in every some is a 0.
func (c *chance) ones(n, some int) []byte {
	out := make([]byte, n)
	for i := range out {
		if c.below(some) > 0 {
			out[i] = 1
		}
	}
	return out
}

// dirty gives the same bits, as bytes of any kind.
func (c *chance) dirty(clean []byte) []byte {
	out := make([]byte, len(clean))
	for i, b := range clean {
		out[i] = byte(c.below(128))*2 + b
	}
	return out
}

// text gives bits as a text of 0s and 1s, and bits the bits of one.
func text(list []byte) string {
	var out strings.Builder
	for _, b := range list {
		out.WriteByte('0' + b%2)
	}
	return out.String()
}

func row(s string) []byte {
	out := []byte(s)
	for i := range out {
		out[i] -= '0'
	}
	return out
}

// stuffed and unstuffed are what the chapter says, told of a text: what is
// replaced there is sought from the left, and no part of it twice.
func stuffed(s string) string { return strings.ReplaceAll(s, "11111", "111110") }

func unstuffed(s string) (string, api.Errno) {
	if strings.Contains(s, "111111") {
		return "", api.ErrAbort
	}
	return strings.ReplaceAll(s, "111110", "11111"), api.OK
}

// each hands each row of up to most bits to a function.
func each(most int, call func([]byte)) {
	for length := range most + 1 {
		for n := range 1 << length {
			list := make([]byte, length)
			for i := range list {
				list[i] = byte(n >> i & 1)
			}
			call(list)
		}
	}
}

// samples are longer rows, of few 0s and of many.
func samples() [][]byte {
	c := chance(1)
	var out [][]byte
	for _, some := range []int{2, 4, 7, 20} {
		for n := range 60 {
			out = append(out, c.ones(n, some))
		}
		out = append(out, c.ones(5000, some))
	}
	return append(out, make([]byte, 300), bytes.Repeat([]byte{1}, 300))
}

// checkInsert holds Insert against what is wanted.
func checkInsert(t *testing.T, list []byte, want string) {
	t.Helper()
	if got := zero.Insert(list); !bytes.Equal(got, row(want)) {
		t.Errorf("Insert(%v) = %v, want %s", list, got, want)
	}
}

// checkRemove holds Remove against what is wanted.
func checkRemove(t *testing.T, list []byte, want string, code api.Errno) {
	t.Helper()
	got, e := zero.Remove(list)
	if e != code || !bytes.Equal(got, row(want)) {
		t.Errorf("Remove(%v) = %v, %d, want %s, %d", list, got, e, want, code)
	}
	if e != api.OK && got != nil {
		t.Errorf("Remove(%v) has %d bits beside an error", list, len(got))
	}
}

// P6.1: Insert, Flag.

func TestInsertOfKnownBits(t *testing.T) {
	for _, x := range []struct{ list, want string }{
		{"111111", "1111101"},
		{"", ""},
		{"0", "0"},
		{"1", "1"},
		{"1111", "1111"},
		{"11111", "111110"},
		{"111110", "1111100"},
		{"0111110", "01111100"},
		{"01111110", "011111010"},
		{"1111111111", "111110111110"},
		{"11111111111", "1111101111101"},
		{"111111111", "1111101111"},
		{"111101111", "111101111"},
		{"1111011111", "11110111110"},
		{"0000000000", "0000000000"},
		{"11111011111", "1111100111110"},
	} {
		checkInsert(t, row(x.list), x.want)
	}
	checkInsert(t, nil, "")
	checkInsert(t, bits.Of([]byte{0x7e}), "011111010")
	checkInsert(t, bits.Of([]byte{0xff, 0xff}), "1111101111101111101")
}

func TestInsertOfAllShortRows(t *testing.T) {
	each(16, func(list []byte) { checkInsert(t, list, stuffed(text(list))) })
}

func TestInsertOfManyBits(t *testing.T) {
	c := chance(2)
	for _, list := range samples() {
		want := stuffed(text(list))
		checkInsert(t, list, want)
		checkInsert(t, c.dirty(list), want)
	}
}

func TestInsertOfEachByte(t *testing.T) {
	for n := range 256 {
		b := byte(n)
		want := "0000000"
		if n%2 == 1 {
			want = "11111011"
		}
		checkInsert(t, bytes.Repeat([]byte{b}, 7), want)
		checkInsert(t, []byte{1, 1, 1, 1, b, 0}, stuffed("1111"+text([]byte{b})+"0"))
	}
}

func TestInsertHasNoBound(t *testing.T) {
	for _, n := range []int{254, 255, 256, 65535, 65536, 100003} {
		got := zero.Insert(bytes.Repeat([]byte{1}, n))
		if len(got) != n+n/5 || bits.Run(got) != 5 {
			t.Errorf("of %d 1s: %d bits, of which %d 1s stand in a row", n, len(got), bits.Run(got))
		}
	}
}

func TestFlag(t *testing.T) {
	if got := zero.Flag(); !bytes.Equal(got, []byte{0, 1, 1, 1, 1, 1, 1, 0}) {
		t.Errorf("Flag() = %v", got)
	}
}

// P6.2: Remove.

func TestRemoveOfKnownBits(t *testing.T) {
	for _, x := range []struct{ list, want string }{
		{"1111101", "111111"},
		{"", ""},
		{"0", "0"},
		{"1", "1"},
		{"11110", "11110"},
		{"11111", "11111"},
		{"111110", "11111"},
		{"1111100", "111110"},
		{"01111100", "0111110"},
		{"111110111110", "1111111111"},
		{"11111011111", "1111111111"},
		{"1111100111110", "11111011111"},
		{"1111011110", "1111011110"},
		{"00000000", "00000000"},
		{"1111101111101", "11111111111"},
	} {
		checkRemove(t, row(x.list), x.want, api.OK)
	}
	checkRemove(t, nil, "", api.OK)
	checkRemove(t, []byte{3, 5, 255, 129, 7, 254, 2, 9}, "1111101", api.OK)
}

func TestRemoveOfAllShortRows(t *testing.T) {
	each(16, func(list []byte) {
		want, code := unstuffed(text(list))
		checkRemove(t, list, want, code)
	})
}

func TestRemoveOfManyBits(t *testing.T) {
	c := chance(3)
	for _, list := range samples() {
		for _, some := range [][]byte{list, zero.Insert(list)} {
			want, code := unstuffed(text(some))
			checkRemove(t, some, want, code)
			checkRemove(t, c.dirty(some), want, code)
		}
	}
}

func TestRemoveOfEachByte(t *testing.T) {
	for n := range 256 {
		list := []byte{1, 1, 1, 1, 1, byte(n), 0}
		want, code := unstuffed(text(list))
		checkRemove(t, list, want, code)
		list = []byte{1, 1, byte(n), 1, 1, 1, 0}
		want, code = unstuffed(text(list))
		checkRemove(t, list, want, code)
	}
}

func TestSixOnesAreToldWhereverTheyStand(t *testing.T) {
	const length = 500
	for n := 6; n < 20; n++ {
		for at := range length - n + 1 {
			list := make([]byte, length)
			for i := range n {
				list[at+i] = byte(2*i + 1)
			}
			checkRemove(t, list, "", api.ErrAbort)
		}
	}
	for _, list := range [][]byte{
		row("111111"),
		row("0111111"),
		row("1111110"),
		row("1111101111110"),
		row("1111110111110"),
		row("11111011111011111011111111"),
		bits.Of([]byte{0xff}),
		bytes.Repeat([]byte{255}, 70000),
		zero.Flag(),
		append(zero.Insert(row("111111")), 1, 1, 1, 1, 1),
	} {
		checkRemove(t, list, "", api.ErrAbort)
	}
}

func TestFiveOnesAreNotSix(t *testing.T) {
	const length = 500
	for at := range length - 5 {
		list := make([]byte, length)
		for i := range 5 {
			list[at+i] = 1
		}
		want := make([]byte, length-1)
		copy(want, list)
		checkRemove(t, list, text(want), api.OK)
	}
}

func TestRemoveHasNoBound(t *testing.T) {
	for _, n := range []int{254, 255, 256, 65535, 65536, 100003} {
		got, e := zero.Remove(zero.Insert(bytes.Repeat([]byte{1}, n)))
		if e != api.OK || len(got) != n || bits.Run(got) != n {
			t.Errorf("of %d 1s: %d bits, %d", n, len(got), e)
		}
	}
}

// P6.3: what is stuffed, and read again.

// checkBack holds bits against what they are, stuffed, and without what was put in.
func checkBack(t *testing.T, list []byte) {
	t.Helper()
	out := zero.Insert(list)
	checkRemove(t, out, text(list), api.OK)
	if most := bits.Run(out); most > 5 {
		t.Errorf("Insert(%v) = %v: %d 1s stand in a row", list, out, most)
	}
	if bytes.Contains(out, zero.Flag()) {
		t.Errorf("Insert(%v) = %v has a flag", list, out)
	}
}

func TestWhatWasStuffedIsAsItWas(t *testing.T) {
	c := chance(4)
	each(14, func(list []byte) { checkBack(t, list) })
	for _, list := range samples() {
		checkBack(t, list)
		checkBack(t, c.dirty(list))
	}
	for n := range 256 {
		for m := range 256 {
			checkBack(t, bits.Of([]byte{byte(n), byte(m)}))
		}
	}
}

// checkAgain holds what Remove leaves, stuffed, against what it was given: only at
// its end may a 0 be missing there, behind five 1s.
func checkAgain(t *testing.T, list []byte) {
	t.Helper()
	left, e := zero.Remove(list)
	if e != api.OK {
		return
	}
	want := text(list)
	full := strings.Split(want, "0")
	if full[len(full)-1] == "11111" {
		want += "0"
	}
	checkInsert(t, left, want)
}

func TestWhatIsLeftStuffedBeginsAsItWas(t *testing.T) {
	c := chance(5)
	each(14, func(list []byte) { checkAgain(t, list) })
	for _, list := range samples() {
		out := zero.Insert(list)
		checkAgain(t, list)
		checkAgain(t, c.dirty(out))
		for n := range min(len(out), 100) {
			checkAgain(t, out[:n])
		}
	}
}

// K5: what is handed in, and what is answered. K6: the same call answers the
// same.

func TestArgumentsStayAndAnswersAreNew(t *testing.T) {
	calls := map[string]func([]byte) []byte{
		"Insert": zero.Insert,
		"Remove": func(b []byte) []byte { l, _ := zero.Remove(b); return l },
		"Flag":   func([]byte) []byte { return zero.Flag() },
	}
	for name, call := range calls {
		for _, given := range [][]byte{{}, {1}, {1, 3, 5, 7, 9}, {0, 2, 4}, {1, 1, 1, 1, 1, 0, 1, 254}, {1, 1, 1, 1, 1, 1}} {
			room := append(bytes.Clone(given), 1, 3, 1, 255, 1, 1, 1, 2, 1, 0)
			before := bytes.Clone(room)
			first := call(room[:len(given)])
			exact := bytes.Clone(call(bytes.Clone(given)))
			if !bytes.Equal(first, exact) {
				t.Errorf("%s of %v hangs on what lies behind the length: %v, %v", name, given, first, exact)
			}
			whole := first[:cap(first)]
			for i := range whole {
				whole[i] = 0x55
			}
			if !bytes.Equal(room, before) {
				t.Errorf("%s of %v changed, or handed out, what it was given", name, given)
			}
			if again := call(room[:len(given)]); !bytes.Equal(again, exact) {
				t.Errorf("%s of %v = %v, and again %v", name, given, exact, again)
			}
		}
	}
}
