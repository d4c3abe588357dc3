package shell

import (
	"fmt"
	"math"
	"reflect"
	"slices"
	"strings"
	"testing"

	"sgraffito/api"
	"sgraffito/audit"
	"sgraffito/flash"
	"sgraffito/plan"
)

// tells holds what a shell tells of a line to what is wanted (without the line's end).
func tells(t *testing.T, s *Shell, line, want string) {
	t.Helper()
	if got := s.Line(line); got != want+"\n" {
		t.Fatalf("%q tells %q, want %q", shortened(line), shortened(got), shortened(want+"\n"))
	}
}

// shortened tells the beginning of a text.
func shortened(s string) string { return s[:min(len(s), 200)] }

// runs holds what lines tell to what is wanted, line by line, and in one.
func runs(t *testing.T, lines, want []string) {
	t.Helper()
	got, e := Run(strings.Join(lines, "\n"))
	if e != api.OK || got != strings.Join(want, "\n")+"\n" {
		t.Errorf("%q: error %d, %q, want %q", lines, e, got, want)
	}
	s := New()
	for n, line := range lines {
		tells(t, s, line, want[n])
	}
}

// same tells whether two devices are alike, their pasts and counts, too.
func same(x, y *flash.Device) bool { return reflect.DeepEqual(x.Copy(), y.Copy()) }

// of tells a shell's device and cache.
func of(s *Shell) *hand { return &hand{s.machine.Device(), s.machine.Cache()} }

// alike holds a shell's device and cache to others.
func alike(t *testing.T, s *Shell, y *hand) {
	t.Helper()
	x := of(s)
	if !same(x.d, y.d) || x.c.Dead() != y.c.Dead() || x.c.Stats() != y.c.Stats() || !slices.Equal(x.c.Counts(), y.c.Counts()) {
		t.Fatalf("machines that are not alike: %v, %v", x.c.Stats(), y.c.Stats())
	}
}

// The ten examples of the whole, and the chapter's.
func TestExamples(t *testing.T) {
	runs(t, []string{
		"set fox red", "set hen white", "get fox", "flush", "delete hen", "crash", "get hen",
		"delete hen", "flush", "crash", "get hen", "set owl grey 5", "tick 5", "get owl", "torn",
	}, []string{
		"ok", "ok", "value red", "ok", "ok", "ok", "value white",
		"ok", "ok", "ok", "miss", "ok", "ok", "miss", "",
	})
	runs(t, []string{"set k v", "flush", "crash", "get k"}, []string{"ok", "ok", "ok", "value v"})
	runs(t, []string{"foo"}, []string{"error 17"})
}

// P22.1: at first there is a machine of the plan that the chapter tells; two shells
// have two.
func TestNew(t *testing.T) {
	x, y := New(), New()
	alike(t, x, newHand(small))
	alike(t, x, of(y))
	tells(t, x, "set k v", "ok")
	tells(t, y, "get k", "miss")
	tells(t, x, "get k", "value v")
}

// P22.1: of nil error 1, whatever the line.
func TestNil(t *testing.T) {
	var s *Shell
	for _, line := range []string{"", " ", "# x", "get k", "foo", "get k\nget k", "\n"} {
		tells(t, s, line, "error 1")
	}
}

// P22.1: error 16, if a line has a line's end in it; nothing is done then.
func TestLineEnd(t *testing.T) {
	s := New()
	for _, line := range []string{"\n", "set k v\n", "\nset k v", "set\nk v", "# x\n", "#\nset k v", " \n ", "foo\n", "set k v\r\n", "\n\n"} {
		tells(t, s, line, "error 16")
	}
	alike(t, s, newHand(small))
}

// P22.1: what has no words, or begins with #, is nothing. No other bytes than 32, 9
// and 13 are blanks.
func TestNothing(t *testing.T) {
	s := New()
	for _, line := range []string{"", " ", "\t", "\r", " \t\r ", "#", "# set k v", "#set k v", " \t # set k v", "##", "\r#", "#\tx"} {
		if got := s.Line(line); got != "" {
			t.Errorf("%q tells %q", line, got)
		}
	}
	alike(t, s, newHand(small))
	for _, line := range []string{"x # y", "\v", "\f", "\x00", "\u00a0", "\u3000", "\u2028", "\x85", "\xa0", "\\#", "\"#\"", "\v# x", "get k # x", "flush #", "flush\v", "flu\fsh"} {
		tells(t, s, line, "error 17")
	}
	alike(t, s, newHand(small))
}

// P22.1, P22.2: blanks stand between words, ahead and behind, as many as there are.
func TestBlanks(t *testing.T) {
	s := New()
	for _, line := range []string{"set k v", " set k v", "set k v ", "\tset\tk\tv\t", "\r set \r\r k\t\tv\r", "set  k     v\t 0"} {
		tells(t, New(), line, "ok")
		tells(t, s, line, "ok")
		tells(t, s, " get\tk\r", "value v")
	}
	tells(t, s, "set k\vk a\u00a0\xffb\fc", "ok")
	tells(t, s, "get k\vk", "value a\u00a0\xffb\fc")
	tells(t, s, "set # #", "ok")
	tells(t, s, "get #", "value #")
	tells(t, s, "set get set", "ok")
	tells(t, s, "get get", "value set")
}

// P22.1: error 17 of a line that there is not.
func TestOther(t *testing.T) {
	s := New()
	for _, line := range []string{
		"foo", "Get k", "GET k", "gets k", "ge k", "put k v", "del k", "remove k", "quit", "help", "-", "0", "1 2", "value k", "error 17", "ok",
		"plan", "plan 60 96 3 2 4 2 8", "plan 60 96 3 2 4 2 8 1 1", "plan 60 96 3 2 4 2 8 x", "plan x 96 3 2 4 2 8 1", "plan 60 96 3 2 4 2 8 0x1", "plan 60 96 3 2 4 2 8 18446744073709551615",
		"get", "get k k", "get k 1", "set", "set k", "set k v 1 1", "set k v x", "set k v 1x", "set k v 1.", "set k v -", "set k v w 1",
		"delete", "delete k k", "delete k 1", "flush k", "flush 0", "flush 0 0", "checkpoint k", "checkpoint 0",
		"tick", "tick x", "tick 1 1", "tick k v", "tick -", "arm", "arm x", "arm 1 1", "rot", "rot 1", "rot 1 2", "rot 1 2 3 4", "rot 1 2 x", "rot x 1 2", "rot 1 x 2",
		"crash x", "crash 1 x", "crash 1 2 x 3", "stats 1", "stats x", "audit 1", "audit x", "torn 1", "torn x", "torn 0 0",
	} {
		tells(t, s, line, "error 17")
	}
	alike(t, s, newHand(small))
}

// P22.1: a number is - or nothing, and from 1 to 9 figures.
func TestNumbers(t *testing.T) {
	for w, want := range map[string]string{
		"0": "ok", "1": "ok", "7": "ok", "10": "ok", "007": "ok", "-0": "ok", "-000": "ok", "000000000": "ok", "000000001": "ok",
		"99999999": "ok", "100000000": "ok", "999999999": "ok", "0123456789": "error 17", "1000000000": "error 17", "0000000000": "error 17", "9999999999": "error 17",
		"-1": "error 2", "-10": "error 2", "-01": "error 2", "-999999999": "error 2", "-000000001": "error 2", "-1000000000": "error 17", "-0000000000": "error 17", "-0000000001": "error 17",
		"-": "error 17", "--1": "error 17", "+1": "error 17", "+": "error 17", "1-": "error 17", "1-1": "error 17", "-1-": "error 17", "-+1": "error 17",
		"1.": "error 17", "1.0": "error 17", ".1": "error 17", "1e3": "error 17", "0x1": "error 17", "0b1": "error 17", "0o7": "error 17", "1_0": "error 17", "1,0": "error 17",
		"x": "error 17", "1x": "error 17", "x1": "error 17", "1x1": "error 17", "a": "error 17", "f": "error 17", "/": "error 17", ":": "error 17", "/1": "error 17", "1:": "error 17",
		"\u0661": "error 17", "\uff11": "error 17", "1\u00b2": "error 17", "\u22121": "error 17", "\xb1": "error 17", "1\x00": "error 17", "1\v": "error 17", "#": "error 17", "1#": "error 17",
		"99999999999999999999999": "error 17", "-99999999999999999999999": "error 17", "18446744073709551617": "error 17",
	} {
		tells(t, New(), "tick "+w, want)
		tells(t, New(), "set k v "+w, want)
		if want != "error 17" {
			want = "ok"
		}
		tells(t, New(), "arm "+w, want)
		tells(t, New(), "crash 1 "+w+" 2", want)
		tells(t, New(), "plan 60 96 3 2 4 2 8 "+w, want)
	}
	s := New()
	tells(t, s, "tick 000000012", "ok")
	tells(t, s, "tick -0", "ok")
	tells(t, s, "tick 999999999", "ok")
	if got := s.machine.Cache().Stats().Time; got != 1000000011 {
		t.Errorf("time %d", got)
	}
	tells(t, s, "rot 2 3 -1", "ok")
	if b, _ := s.machine.Device().Read(2); b[3] != 255 {
		t.Errorf("-1 turns %d", b[3])
	}
}

// P22.1: plan takes a new machine; the old one stays, if there is none such. Each
// number stands where the chapter names it; a seed below 0 counts modulo 2^64.
func TestPlan(t *testing.T) {
	for line, p := range map[string]plan.Plan{
		"plan 60 96 3 2 4 2 8 1":            {Sectors: 60, Size: 96, Regions: 3, RegionSectors: 2, LogSectors: 4, Depth: 2, Memory: 8, Seed: 1},
		"plan 147 131 7 3 9 5 11 -1":        {Sectors: 147, Size: 131, Regions: 7, RegionSectors: 3, LogSectors: 9, Depth: 5, Memory: 11, Seed: math.MaxUint64},
		"plan 2000 512 8 16 32 8 64 0":      {Sectors: 2000, Size: 512, Regions: 8, RegionSectors: 16, LogSectors: 32, Depth: 8, Memory: 64},
		"plan 22 96 3 1 4 0 8 -999999999":   {Sectors: 22, Size: 96, Regions: 3, RegionSectors: 1, LogSectors: 4, Memory: 8, Seed: math.MaxUint64 - 999999998},
		"plan 0140 96 5 4 5 3 8 7":          small,
		"plan 16384 512 64 32 256 8 256 -0": {Sectors: 16384, Size: 512, Regions: 64, RegionSectors: 32, LogSectors: 256, Depth: 8, Memory: 256},
	} {
		s := New()
		tells(t, s, "set k v", "ok")
		tells(t, s, line, "ok")
		alike(t, s, newHand(p))
		tells(t, s, "get k", "miss")
	}
	s, other := New(), New()
	tells(t, s, "set k v", "ok")
	tells(t, other, "set k v", "ok")
	for _, line := range []string{
		"plan 10 96 3 2 4 2 8 1", "plan 0 0 0 0 0 0 0 0", "plan 140 95 5 4 5 3 8 7", "plan 140 96 2 4 5 3 8 7", "plan 140 96 5 0 5 3 8 7", "plan 140 96 5 4 3 3 8 7",
		"plan 140 96 5 4 5 9 8 7", "plan 140 96 5 4 5 -1 8 7", "plan 140 96 5 4 5 3 7 7", "plan -140 96 5 4 5 3 8 7", "plan 16385 96 5 4 5 3 8 7", "plan 999999999 96 5 4 5 3 8 7",
	} {
		tells(t, s, line, "error 12")
	}
	alike(t, s, of(other))
	tells(t, s, "get k", "value v")
}

// P22.1: each line that is an act does that act, and tells its error.
func TestActs(t *testing.T) {
	long := strings.Repeat("k", 65)
	runs(t, []string{
		"get a", "set a b", "get a", "set a c 0", "get a", "delete a", "get a", "delete a", "get " + long, "set " + long + " v", "delete " + long,
		"get " + long[1:], "set " + long[1:] + " v", "get " + long[1:], "set a " + strings.Repeat("v", 4097), "set a " + strings.Repeat("v", 400), "set a b -1", "tick -1",
		"tick 0", "set a b 3", "tick 2", "get a", "tick 1", "get a", "rot -1 0 1", "rot 140 0 1", "rot 0 96 1", "rot 0 -1 1", "arm -1", "arm 0", "flush", "checkpoint",
	}, []string{
		"miss", "ok", "value b", "ok", "value c", "ok", "miss", "ok", "error 10", "error 10", "error 10",
		"miss", "ok", "value " + "v", "error 11", "error 9", "error 2", "error 2",
		"ok", "ok", "ok", "value b", "ok", "miss", "error 2", "error 2", "error 2", "error 2", "ok", "ok", "ok", "ok",
	})
	huge := strings.Repeat("k", 65536)
	s := New()
	for _, line := range []string{"get " + huge, "set " + huge + " v", "set k " + huge, "delete " + huge} {
		tells(t, s, line, "error 17")
	}
	for _, line := range []string{"get " + huge[1:], "set " + huge[1:] + " v", "delete " + huge[1:]} {
		tells(t, s, line, "error 10")
	}
	tells(t, s, "set k "+huge[1:], "error 11")
	alike(t, s, newHand(small))
}

// P22.1: a value is told as it is, up to the longest there is.
func TestValue(t *testing.T) {
	s := New()
	tells(t, s, "plan 2000 512 8 16 32 8 64 0", "ok")
	var all []byte
	for n := range 256 {
		if !strings.ContainsRune(" \t\r\n", rune(n)) {
			all = append(all, byte(n))
		}
	}
	for _, v := range []string{"v", "miss", "value", "-1", "#", string(all), strings.Repeat("w", 4096), "\xff\xfe", "%d%s"} {
		tells(t, s, "set k "+v, "ok")
		tells(t, s, "get k", "value "+v)
	}
}

// P22.1: a crash with at most 100 numbers; of the loose writes so many bytes are done,
// each its own.
func TestCrash(t *testing.T) {
	fates := strings.Repeat(" 1", 100)
	s := New()
	tells(t, s, "crash"+fates, "ok")
	tells(t, s, "crash"+fates+" 1", "error 17")
	tells(t, s, "crash"+fates+fates, "error 17")
	tells(t, s, "crash", "ok")
	for _, fates := range []string{"", " 50", " 50 -3", " 0 96 96", " 96 0 1 7", " -1 999999999 -999999999"} {
		s, h := New(), newHand(small)
		for _, line := range []string{"set a b", "flush", "set k " + strings.Repeat("v", 250), "get k", "crash" + fates, "get a", "get k", "set a c"} {
			if got, want := s.Line(line), h.line(line); got != want {
				t.Errorf("%q: %q, want %q", line, got, want)
			}
		}
		alike(t, s, h)
	}
}

// P22.1: arm, and what a dead cache and a device that is down tell; a crash heals.
func TestDown(t *testing.T) {
	runs(t, []string{
		"set a b", "flush", "arm 1", "checkpoint", "get a", "set a c", "delete a", "flush", "checkpoint", "tick 1", "stats", "audit", "torn", "rot 0 0 1", "arm 1", "foo", "crash", "get a", "audit",
	}, []string{
		"ok", "ok", "ok", "error 4", "error 14", "error 14", "error 14", "error 14", "error 14", "error 14", "0 0 0 0 0 0 0 0 0", "error 4", "", "ok", "ok", "error 17", "ok", "value b",
		"depth 0 entries 1 changes 0 regions 1 records 1",
	})
}

// P22.1: without a cache what is asked of it tells error 1, and no numbers but 0; a
// plan takes another machine.
func TestLost(t *testing.T) {
	runs(t, []string{
		"set a b", "checkpoint", "rot 0 9 1", "rot 1 9 1", "torn", "crash", "get a", "set a b", "delete a", "flush", "checkpoint", "tick 1", "stats", "audit", "torn", "arm 0", "crash",
		"rot 0 9 1", "torn", "crash", "get a", "rot 0 9 257", "rot 1 9 1", "crash", "plan 60 96 3 2 4 2 8 1", "get a", "set a c", "get a", "torn",
	}, []string{
		"ok", "ok", "ok", "ok", "0 1", "error 15", "error 1", "error 1", "error 1", "error 1", "error 1", "error 1", "0 0 0 0 0 0 0 0 0", "error 15", "0 1", "ok", "error 15",
		"ok", "1", "ok", "value b", "ok", "ok", "error 15", "ok", "miss", "ok", "value c", "",
	})
}

// P22.1: stats tells nine numbers, in the act's order.
func TestStats(t *testing.T) {
	s := New()
	tells(t, s, "stats", "0 2 0 308 1 5 3 0 0")
	for n := range 30 {
		tells(t, s, fmt.Sprintf("set k%d v%d", n, n), "ok")
		tells(t, s, "tick 2", "ok")
	}
	x := s.machine.Cache().Stats()
	tells(t, s, "stats", fmt.Sprintf("%d %d %d %d %d %d %d %d %d", x.Time, x.Gen, x.Depth, x.Where, x.Oldest, x.Left, x.Held, x.Lost, x.Splits))
	if x.Time != 60 || x.Splits == 0 || x.Depth == 0 || x.Lost == 0 {
		t.Errorf("%+v", x)
	}
}

// P22.1: audit tells of the report that is on the device: entries in slots that have
// one bucket count once, those count, too, whose regions are written over, and each
// region's records.
func TestAudit(t *testing.T) {
	s := New()
	tells(t, s, "audit", "depth 0 entries 0 changes 0 regions 0 records 0")
	tells(t, s, "set a b", "ok")
	tells(t, s, "audit", "depth 0 entries 0 changes 0 regions 0 records 0")
	tells(t, s, "flush", "ok")
	tells(t, s, "audit", "depth 0 entries 0 changes 1 regions 1 records 1")
	tells(t, s, "delete a", "ok")
	tells(t, s, "set c d", "ok")
	tells(t, s, "flush", "ok")
	tells(t, s, "audit", "depth 0 entries 0 changes 3 regions 1 records 2")
	tells(t, s, "checkpoint", "ok")
	tells(t, s, "audit", "depth 0 entries 1 changes 0 regions 1 records 2")

	s = New()
	tells(t, s, "plan 147 96 4 1 9 5 11 3", "ok")
	stale, shared := false, false
	for n := range 60 {
		tells(t, s, fmt.Sprintf("set key%d %s", n%23, strings.Repeat("v", n%40+1)), "ok")
		tells(t, s, "checkpoint", "ok")
		want, e := of(s).audit()
		if e != api.OK {
			t.Fatal(e)
		}
		tells(t, s, "audit", want)
		r, _ := audit.Look(s.machine.Device())
		all := 0
		for _, x := range r.Slots {
			all += len(x.Bucket.Entries)
		}
		entries := nums(split.FindAllString(want, -1)[3:4])[0]
		stale, shared = stale || audit.Live(r) < entries, shared || all > entries
	}
	if !stale || !shared {
		t.Error("there was no stale entry, or no bucket in several slots")
	}
}

// P22.1: torn tells the torn sectors in order, with blanks between.
func TestTorn(t *testing.T) {
	runs(t, []string{
		"torn", "rot 139 0 1", "torn", "rot 20 5 7", "torn", "rot 9 95 128", "torn", "rot 20 5 7", "torn", "rot 9 95 128", "rot 139 0 1", "torn",
	}, []string{
		"", "ok", "139", "ok", "20 139", "ok", "9 20 139", "ok", "9 139", "ok", "ok", "",
	})
}

// P22.1: Run tells what all lines of a new shell tell; a script may have 2^18 bytes.
func TestRun(t *testing.T) {
	for lines, want := range map[string]string{
		"": "", "\n": "", "\n\n": "", " \n\t\n": "", "# x": "", "# x\n": "", "foo": "error 17\n", "foo\n": "error 17\n", "\nfoo": "error 17\n", "foo\n\nfoo\n": "error 17\nerror 17\n",
		"set a b\r\nget a\r\n": "ok\nvalue b\n", "set a b\n# get a\n\n  get a": "ok\nvalue b\n", "torn\ntorn\n": "\n\n", "get a\rget b": "error 17\n",
	} {
		if got, e := Run(lines); e != api.OK || got != want {
			t.Errorf("%q: error %d, %q, want %q", lines, e, got, want)
		}
	}
	full := "set a b\n" + strings.Repeat("#", 1<<18-14) + "\nget a"
	if got, e := Run(full); len(full) != 1<<18 || e != api.OK || got != "ok\nvalue b\n" {
		t.Errorf("%d bytes: error %d, %q", len(full), e, got)
	}
	for _, lines := range []string{full + " ", strings.Repeat("\n", 1<<18+1), strings.Repeat("torn\n", 1<<16), strings.Repeat("\xff", 1<<20)} {
		if got, e := Run(lines); e != api.ErrLong || got != "" {
			t.Errorf("%d bytes: error %d, %q", len(lines), e, shortened(got))
		}
	}
	if got, e := Run(strings.Repeat("\n", 1<<18)); e != api.OK || got != "" {
		t.Errorf("line's ends: error %d, %q", e, shortened(got))
	}
	if got, e := Run(strings.Repeat("x\n", 1<<17)); e != api.OK || got != strings.Repeat("error 17\n", 1<<17) {
		t.Errorf("many lines: error %d, %q", e, shortened(got))
	}
	tells(t, New(), "set a b # "+strings.Repeat("#", 1<<19), "error 17")
}
