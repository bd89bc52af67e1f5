package config_test

import (
	"bytes"
	"math"
	"testing"

	"marline/accm"
	"marline/api"
	"marline/config"
	"marline/fcs"
	"marline/stuff"
)

// kinds gives a config of each kind: Sync, Wide, ACFC and PFC, set or not.
func kinds(send, recv uint32, mru int) []api.Config {
	var out []api.Config
	for n := range 16 {
		out = append(out, api.Config{
			Sync: n&1 != 0, Wide: n&2 != 0, ACFC: n&4 != 0, PFC: n&8 != 0,
			Send: send, Recv: recv, MRU: mru,
		})
	}
	return out
}

// maps are none, all, of few octets, and of all but few.
func maps() []uint32 {
	return []uint32{0, 1, 2, 3, 9, 0x80000000, 0x7fffffff, 0xa0000, 0x20000, 0xfffffffe, 0xffffffff}
}

// changed gives a config that differs as it is told.
func changed(c api.Config, change func(*api.Config)) api.Config {
	change(&c)
	return c
}

// P8.1: Check.

func TestCheckOfEdges(t *testing.T) {
	for _, x := range []struct {
		mru  int
		want api.Errno
	}{
		{63, api.ErrRange}, {64, api.OK}, {65, api.OK}, {1500, api.OK},
		{65534, api.OK}, {65535, api.OK}, {65536, api.ErrRange},
		{0, api.ErrRange}, {1, api.ErrRange}, {-1, api.ErrRange}, {-64, api.ErrRange}, {-1500, api.ErrRange},
		{1<<16 + 64, api.ErrRange}, {1<<32 + 1500, api.ErrRange}, {-1<<32 + 1500, api.ErrRange},
		{math.MaxInt, api.ErrRange}, {math.MinInt, api.ErrRange},
	} {
		if got := config.Check(api.Config{MRU: x.mru}); got != x.want {
			t.Errorf("Check of the MRU %d = %d, want %d", x.mru, got, x.want)
		}
	}
}

func TestCheckOfEachMRU(t *testing.T) {
	for mru := -1000; mru < 70000; mru++ {
		want := api.ErrRange
		if mru >= 64 && mru <= 65535 {
			want = api.OK
		}
		if got := config.Check(api.Config{MRU: mru}); got != want {
			t.Fatalf("Check of the MRU %d = %d, want %d", mru, got, want)
		}
	}
}

func TestCheckHangsOnTheMRUAlone(t *testing.T) {
	for _, send := range maps() {
		for _, recv := range maps() {
			for _, c := range kinds(send, recv, 64) {
				if got := config.Check(c); got != api.OK {
					t.Fatalf("Check(%+v) = %d", c, got)
				}
			}
			for _, c := range kinds(send, recv, 65536) {
				if got := config.Check(c); got != api.ErrRange {
					t.Fatalf("Check(%+v) = %d", c, got)
				}
			}
		}
	}
}

// P8.1: Default.

func TestDefault(t *testing.T) {
	c := config.Default()
	if c.Sync || c.Wide || c.ACFC || c.PFC {
		t.Errorf("Default sets what isn't agreed upon: %+v", c)
	}
	if len(accm.List(c.Send)) != 32 || len(accm.List(c.Recv)) != 32 {
		t.Errorf("Default has not all octets in its maps: %+v", c)
	}
	if c.MRU != 1500 {
		t.Errorf("Default's MRU = %d", c.MRU)
	}
	if got := config.Check(c); got != api.OK {
		t.Errorf("Check of Default = %d", got)
	}
	if !config.Fits(c, c) {
		t.Error("Default doesn't fit Default")
	}
	c.MRU, c.Send, c.Sync = 64, 0, true
	if got := config.Default(); got != (api.Config{Send: 0xffffffff, Recv: 0xffffffff, MRU: 1500}) {
		t.Errorf("Default = %+v, when an earlier one was changed", got)
	}
}

// P8.2: Most.

func TestMostOfKnownConfigs(t *testing.T) {
	for _, x := range []struct {
		c    api.Config
		want int
	}{
		{config.Default(), 1506},
		{api.Config{MRU: 64}, 70}, {api.Config{MRU: 64, Wide: true}, 72},
		{api.Config{MRU: 1500, Wide: true}, 1508},
		{api.Config{MRU: 65535}, 65541}, {api.Config{MRU: 65535, Wide: true}, 65543},
	} {
		if got := config.Most(x.c); got != x.want {
			t.Errorf("Most(%+v) = %d, want %d", x.c, got, x.want)
		}
	}
}

func TestMostOfEachMRU(t *testing.T) {
	for mru := 64; mru <= 65535; mru++ {
		for _, c := range kinds(0xa0000, 0, mru) {
			want := mru + 4 + 2
			if c.Wide {
				want += 2
			}
			if got := config.Most(c); got != want || got != mru+4+fcs.Size(c.Wide) {
				t.Fatalf("Most(%+v) = %d, want %d", c, got, want)
			}
		}
	}
}

func TestMostHangsOnNoMap(t *testing.T) {
	for _, m := range maps() {
		if got := config.Most(api.Config{Send: m, Recv: ^m, MRU: 100}); got != 106 {
			t.Errorf("Most, by the map %x = %d", m, got)
		}
	}
}

// P8.2: Fits.

func TestFitsAsOneFieldChanges(t *testing.T) {
	base := api.Config{Send: 6, Recv: 2, MRU: 100}
	for _, x := range []struct {
		name         string
		change       func(*api.Config)
		reads, sends bool
	}{
		{"nothing", func(c *api.Config) {}, true, true},
		{"Sync", func(c *api.Config) { c.Sync = true }, false, false},
		{"Wide", func(c *api.Config) { c.Wide = true }, false, false},
		{"ACFC", func(c *api.Config) { c.ACFC = true }, true, false},
		{"PFC", func(c *api.Config) { c.PFC = true }, true, false},
		{"ACFC and PFC", func(c *api.Config) { c.ACFC, c.PFC = true, true }, true, false},
		{"an MRU of one more", func(c *api.Config) { c.MRU++ }, true, false},
		{"an MRU of one less", func(c *api.Config) { c.MRU-- }, false, true},
		{"Send: none", func(c *api.Config) { c.Send = 0 }, true, false},
		{"Send: one less", func(c *api.Config) { c.Send = 2 }, true, true},
		{"Send: another one", func(c *api.Config) { c.Send = 4 }, true, false},
		{"Send: all", func(c *api.Config) { c.Send = 0xffffffff }, true, true},
		{"Recv: none", func(c *api.Config) { c.Recv = 0 }, true, true},
		{"Recv: the sender's", func(c *api.Config) { c.Recv = 6 }, true, true},
		{"Recv: another one", func(c *api.Config) { c.Recv = 1 }, false, true},
		{"Recv: one more", func(c *api.Config) { c.Recv = 7 }, false, true},
		{"Recv: all", func(c *api.Config) { c.Recv = 0xffffffff }, false, true},
	} {
		other := changed(base, x.change)
		if got := config.Fits(base, other); got != x.reads {
			t.Errorf("%s: Fits, where the reader has it = %v", x.name, got)
		}
		if got := config.Fits(other, base); got != x.sends {
			t.Errorf("%s: Fits, where the sender has it = %v", x.name, got)
		}
	}
}

func TestFitsOfEachTwoKinds(t *testing.T) {
	for _, send := range kinds(6, 2, 100) {
		for _, read := range kinds(6, 2, 100) {
			want := send.Sync == read.Sync && send.Wide == read.Wide
			if send.ACFC && !read.ACFC {
				want = false
			}
			if send.PFC && !read.PFC {
				want = false
			}
			if got := config.Fits(send, read); got != want {
				t.Errorf("Fits(%+v, %+v) = %v", send, read, got)
			}
		}
	}
}

func TestFitsOfEachTwoMaps(t *testing.T) {
	for _, by := range maps() {
		for _, in := range maps() {
			want := true
			for _, c := range accm.List(in) {
				want = want && accm.Has(by, c)
			}
			for _, send := range kinds(by, 0x12345678, 64) {
				read := send
				read.Send, read.Recv = 0x9abcdef0, in
				if got := config.Fits(send, read); got != (want || send.Sync) {
					t.Errorf("Fits(%+v, %+v) = %v", send, read, got)
				}
			}
		}
	}
}

func TestFitsOfEachOctetOfAMap(t *testing.T) {
	for c := range byte(32) {
		one, others := accm.Of(c), ^accm.Of(c)
		for _, x := range []struct {
			by, in uint32
			want   bool
		}{{one, one, true}, {one, 0, true}, {0, one, false}, {others, one, false}, {one, others, false}, {0xffffffff, one, true}, {others, others, true}} {
			send, read := api.Config{Send: x.by, MRU: 64}, api.Config{Recv: x.in, MRU: 64}
			if got := config.Fits(send, read); got != x.want {
				t.Errorf("Fits of what escapes by %x, and receives by %x = %v", x.by, x.in, got)
			}
		}
	}
}

// What a sender receives by, and what a reader escapes by, plays no part.
func TestFitsHangsOnOneDirection(t *testing.T) {
	for _, m := range maps() {
		for _, in := range []uint32{2, 9} {
			send := api.Config{Send: 6, Recv: m, MRU: 64}
			read := api.Config{Send: ^m, Recv: in, MRU: 64}
			if got := config.Fits(send, read); got != (in == 2) {
				t.Errorf("Fits(%+v, %+v) = %v", send, read, got)
			}
		}
	}
}

func TestFitsOfMRUs(t *testing.T) {
	edges := []int{64, 65, 127, 128, 1499, 1500, 1501, 32767, 32768, 65534, 65535}
	for _, of := range edges {
		for _, by := range edges {
			for _, send := range kinds(0xffffffff, 0, of) {
				read := changed(send, func(c *api.Config) { c.MRU = by })
				if got := config.Fits(send, read); got != (of <= by) {
					t.Errorf("Fits(%+v, %+v) = %v", send, read, got)
				}
			}
		}
	}
}

func TestFitsAsksForAll(t *testing.T) {
	send := api.Config{Wide: true, ACFC: true, PFC: true, Send: 7, MRU: 65}
	wrong := []func(*api.Config){
		func(c *api.Config) { c.Sync = true },
		func(c *api.Config) { c.Wide = false },
		func(c *api.Config) { c.ACFC = false },
		func(c *api.Config) { c.PFC = false },
		func(c *api.Config) { c.Recv = 8 },
		func(c *api.Config) { c.MRU = 64 },
	}
	for set := range 1 << len(wrong) {
		read := send
		for i, change := range wrong {
			if set>>i&1 == 1 {
				change(&read)
			}
		}
		if got := config.Fits(send, read); got != (set == 0) {
			t.Errorf("Fits(%+v, %+v) = %v", send, read, got)
		}
	}
}

// What fits is what layer 4 reads as it was; of what doesn't, some octet isn't.
func TestFitsIsWhatLayersBelowRead(t *testing.T) {
	octets := make([]byte, 256)
	for i := range octets {
		octets[i] = byte(i)
	}
	for _, by := range maps() {
		for _, in := range maps() {
			got, errno := stuff.Unstuff(in, stuff.Stuff(by, octets))
			want := errno == api.OK && bytes.Equal(got, octets)
			send, read := api.Config{Send: by, MRU: 256}, api.Config{Recv: in, MRU: 256}
			if fits := config.Fits(send, read); fits != want {
				t.Errorf("Fits of what escapes by %x, and receives by %x = %v", by, in, fits)
			}
		}
	}
}

func TestFitsItselfAndOnward(t *testing.T) {
	var list []api.Config
	for _, mru := range []int{64, 1500} {
		for _, m := range []uint32{0, 3, 0xffffffff} {
			list = append(list, kinds(m, m, mru)...)
		}
	}
	for _, a := range list {
		if !config.Fits(a, a) {
			t.Errorf("%+v doesn't fit itself", a)
		}
		for _, b := range list {
			if !config.Fits(a, b) {
				continue
			}
			if config.Most(a) > config.Most(b) {
				t.Errorf("%+v fits %+v, and has more octets", a, b)
			}
			for _, c := range list {
				if a.Send == b.Send && config.Fits(b, c) && !config.Fits(a, c) {
					t.Errorf("%+v fits %+v, and that %+v, which the first one doesn't", a, b, c)
				}
			}
		}
	}
}

// K6 and K7: the same call answers the same, and none panics, of configs that
// may not be, too.

func TestAnyNumbersAnswer(t *testing.T) {
	numbers := []int{math.MinInt, -1, 0, 63, 64, 65535, 65536, math.MaxInt}
	for _, of := range numbers {
		for _, by := range numbers {
			send, read := api.Config{MRU: of}, api.Config{MRU: by}
			if config.Fits(send, read) != config.Fits(send, read) || config.Most(send) != config.Most(send) {
				t.Errorf("of the MRUs %d and %d the same calls answer otherwise", of, by)
			}
		}
	}
}
