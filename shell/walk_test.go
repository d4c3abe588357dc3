package shell

import (
	"fmt"
	"math/rand/v2"
	"strings"
	"testing"

	"sgraffito/api"
)

// plansOfLines are lines that take other machines: with one slot, with few pages, of
// odd size, and some that may not be.
var plansOfLines = []string{
	"plan 22 96 3 1 4 0 8 0", "plan 49 96 3 2 4 3 8 -1", "plan 147 131 7 3 9 5 11 123456789", "plan 140 96 5 4 5 3 8 7",
	"plan 21 96 3 1 4 0 8 0", "plan 49 96 3 2 4 3 7 -1", "plan 0 0 0 0 0 0 0 0",
}

// chance is where a walk's lines come from.
type chance struct{ *rand.Rand }

// of tells one of some.
func (r chance) of(l ...string) string { return l[r.IntN(len(l))] }

// key tells one of a few keys, seldom one that may not be.
func (r chance) key() string {
	if r.IntN(40) == 0 {
		return strings.Repeat("k", 60+r.IntN(10))
	}
	return fmt.Sprintf("k%d", r.IntN(12))
}

// number tells a number, seldom a great one, or none.
func (r chance) number(most int) string {
	switch r.IntN(60) {
	case 0:
		return r.of("-", "x", "1x", "+1", "--1", "1000000000", "-1000000000", "0000000000", "1.5", "0x1", "\u0661")
	case 1:
		return r.of("999999999", "-999999999", "-1", "-0", "000000001", "-00000001")
	}
	return fmt.Sprint(r.IntN(most + 1))
}

// numbers tells so many of them.
func (r chance) numbers(count, most int) []string {
	var l []string
	for range count {
		l = append(l, r.number(most))
	}
	return l
}

// words tells a line's words.
func (r chance) words() []string {
	switch n := r.IntN(100); {
	case n < 30:
		l := []string{"set", r.key(), strings.Repeat(r.of("a", "b", "c", "\xff", "#"), 1+r.IntN(60))}
		if r.IntN(3) == 0 {
			l = append(l, r.number(20))
		}
		return l
	case n < 50:
		return []string{"get", r.key()}
	case n < 58:
		return []string{"delete", r.key()}
	case n < 66:
		return []string{"flush"}
	case n < 69:
		return []string{"checkpoint"}
	case n < 73:
		return []string{"tick", r.number(5)}
	case n < 76:
		return []string{"arm", r.number(9)}
	case n < 83:
		return append([]string{"crash"}, r.numbers(r.IntN(6)*r.IntN(6), 140)...)
	case n < 85:
		return []string{"rot", r.number(150), r.number(100), r.number(300)}
	case n < 98:
		return []string{r.of("stats", "audit", "torn")}
	case n < 99:
		return split.FindAllString(r.of(plansOfLines...), -1)
	}
	return []string{r.of("foo", "Set", "sets", "#", "#get", "get#", "-", "\v", "value")}
}

// spoil takes a word away, puts one more in, or puts two in another order.
func (r chance) spoil(l []string) []string {
	at := r.IntN(len(l))
	switch r.IntN(3) {
	case 0:
		return append(l[:at], l[at+1:]...)
	case 1:
		return append(l, r.of("x", "0", "1", "#", "k"))
	}
	l[0], l[at] = l[at], l[0]
	return l
}

// line tells a line, most of which can be done.
func (r chance) line() string {
	l := r.words()
	if r.IntN(30) == 0 {
		l = r.spoil(l)
	}
	return strings.Join(l, " ")
}

// blanked tells a line with other blanks between its words.
func (r chance) blanked(line string) string {
	b := r.blanks()
	for _, w := range split.FindAllString(line, -1) {
		b += w + r.of(" ", "\t", "\r") + r.blanks()
	}
	return b
}

// blanks tells some blanks, or none.
func (r chance) blanks() string { return strings.Repeat(r.of(" ", "\t", "\r", " \t"), r.IntN(3)) }

// nothing tells a line that is nothing.
func (r chance) nothing() string {
	if r.IntN(2) == 0 {
		return r.blanks()
	}
	return r.blanks() + "#" + r.of("", " ", "#", r.blanks()) + r.line()
}

// first tells a text's first word, if it has one.
func first(s string) string { return append(strings.Fields(s), "")[0] }

// P22.1: whatever lines there are, one behind the other, a shell tells what a device and
// a cache tell that are driven by hand, and is then as they are.
func TestWalk(t *testing.T) {
	found := map[string]int{}
	for seed := range uint64(150) {
		r := chance{rand.New(rand.NewPCG(seed, 22))}
		s, h := New(), newHand(small)
		var lines, told []string
		for n := range 120 {
			line := r.line()
			if r.IntN(200) == 0 {
				line += r.of("\n", "\n"+r.line())
			}
			got, want := s.Line(line), h.line(line)
			if got != want {
				t.Fatalf("seed %d, line %d: %q tells %q, want %q", seed, n, line, got, want)
			}
			if !strings.Contains(line, "\n") {
				lines, told = append(lines, line), append(told, got)
			}
			if n%30 == 0 {
				alike(t, s, h)
			}
			found[first(line)+" "+first(got)]++
		}
		alike(t, s, h)
		if got, e := Run(strings.Join(lines, "\n")); e != api.OK || got != strings.Join(told, "") {
			t.Fatalf("seed %d: Run: error %d, and not what the lines tell", seed, e)
		}
	}
	for _, name := range []string{"plan ok", "plan error", "get value", "get miss", "get error", "set ok", "set error", "delete ok", "delete error", "flush ok", "flush error", "checkpoint ok", "checkpoint error", "tick ok", "tick error", "arm ok", "rot ok", "rot error", "crash ok", "crash error", "audit depth", "audit error"} {
		if found[name] == 0 {
			t.Errorf("there was no %q", name)
		}
	}
}

// P22.2: notes and blanks change nothing: a shell tells of a script with them what it
// tells without.
func TestNotesAndBlanks(t *testing.T) {
	for seed := range uint64(100) {
		r := chance{rand.New(rand.NewPCG(seed, 222))}
		var bare, full []string
		for range 80 {
			line := r.line()
			bare, full = append(bare, line), append(full, r.blanked(line))
			for range r.IntN(3) {
				full = append(full, r.nothing())
			}
		}
		x, e := Run(strings.Join(bare, "\n"))
		y, f := Run(strings.Join(full, "\n") + r.of("", "\n", "\n\n", "\r\n"))
		if e != api.OK || f != api.OK || x != y {
			t.Fatalf("seed %d: notes and blanks change what is told (errors %d, %d)", seed, e, f)
		}
		s := New()
		for range 20 {
			if got := s.Line(r.nothing()); got != "" {
				t.Fatalf("seed %d: nothing tells %q", seed, got)
			}
		}
		alike(t, s, newHand(small))
	}
}

// P22.1: whatever bytes a script has, it tells what its lines tell by hand.
func TestBytes(t *testing.T) {
	rows := []string{"set k v", "get k", "flush", "crash 10 20", "rot 2 0 1", "tick 3", "arm 2", "stats", "audit", "torn", "checkpoint", "delete k", "plan 22 96 3 1 4 0 8 0", "# note"}
	for seed := range uint64(3000) {
		r := chance{rand.New(rand.NewPCG(seed, 2222))}
		b := []byte(strings.Join([]string{r.of(rows...), r.of(rows...), r.of(rows...), r.of(rows...), r.of(rows...), r.of(rows...)}, "\n"))
		for range 1 + r.IntN(4) {
			b[r.IntN(len(b))] = r.of("\n", " ", "\t", "\r", "#", "-", "0", "9", "k", "\x00", "\xff", "\v", string(rune(r.IntN(128))))[0]
		}
		h, want := newHand(small), ""
		for _, line := range strings.Split(string(b), "\n") {
			want += h.line(line)
		}
		if got, e := Run(string(b)); e != api.OK || got != want {
			t.Fatalf("%q: error %d, %q, want %q", b, e, got, want)
		}
	}
}

// R5, R6: what a shell tells hangs on its lines alone, and no shell on another one.
func TestApart(t *testing.T) {
	for seed := range uint64(20) {
		r, other := chance{rand.New(rand.NewPCG(seed, 1))}, chance{rand.New(rand.NewPCG(seed, 2))}
		x, y, z := New(), New(), New()
		for range 60 {
			line := r.line()
			a := x.Line(line)
			z.Line(other.line())
			if b := y.Line(line); a != b {
				t.Fatalf("seed %d: %q tells %q, and %q", seed, line, a, b)
			}
		}
		alike(t, x, of(y))
	}
}
