package bits

import (
	"math"
	"slices"
	"testing"
)

// model is a set as the document words it: a bool a number, and the hand.
type model struct {
	taken []bool
	hand  int
}

func (m *model) take() (int, bool) {
	n := len(m.taken)
	for step := range n {
		i := (m.hand + step) % n
		if !m.taken[i] {
			m.taken[i] = true
			m.hand = (i + 1) % n
			return i, true
		}
	}
	return 0, false
}

// set takes or frees a number, and tells whether that changed it.
func (m *model) set(i int, taken bool) bool {
	if i < 0 || i >= len(m.taken) || m.taken[i] == taken {
		return false
	}
	m.taken[i] = taken
	return true
}

func (m *model) all() []int {
	var list []int
	for i, taken := range m.taken {
		if taken {
			list = append(list, i)
		}
	}
	return list
}

func (m *model) copy() *model { return &model{slices.Clone(m.taken), m.hand} }

// both are a set and its model.
type both struct {
	s *Set
	m *model
}

func newBoth(n int) both { return both{New(n), &model{make([]bool, n), 0}} }

// take takes a number of both, and holds the one to the other.
func (b both) take(t *testing.T) (int, bool) {
	t.Helper()
	want, wantOK := b.m.take()
	got, ok := b.s.Take()
	if got != want || ok != wantOK {
		t.Fatalf("of %d: Take = %d, %v, want %d, %v", len(b.m.taken), got, ok, want, wantOK)
	}
	return got, ok
}

// mark takes a number, clear frees one, has asks for it.
func (b both) mark(t *testing.T, i int) {
	t.Helper()
	if want, got := b.m.set(i, true), b.s.Mark(i); got != want {
		t.Fatalf("of %d: Mark(%d) = %v", len(b.m.taken), i, got)
	}
}

func (b both) clear(t *testing.T, i int) {
	t.Helper()
	if want, got := b.m.set(i, false), b.s.Clear(i); got != want {
		t.Fatalf("of %d: Clear(%d) = %v", len(b.m.taken), i, got)
	}
}

func (b both) has(t *testing.T, i int) {
	t.Helper()
	want := i >= 0 && i < len(b.m.taken) && b.m.taken[i]
	if got := b.s.Has(i); got != want {
		t.Fatalf("of %d: Has(%d) = %v", len(b.m.taken), i, got)
	}
}

// like holds all that a set tells to its model.
func (b both) like(t *testing.T) {
	t.Helper()
	want := b.m.all()
	if got := b.s.All(); !slices.Equal(got, want) {
		t.Fatalf("of %d: All = %v, want %v", len(b.m.taken), got, want)
	}
	if b.s.Count() != len(want) || b.s.Room() != len(b.m.taken) {
		t.Fatalf("Count, Room = %d, %d, want %d, %d", b.s.Count(), b.s.Room(), len(want), len(b.m.taken))
	}
	for i := -1; i <= len(b.m.taken); i++ {
		b.has(t, i)
	}
}

// rooms are of all kinds: the edges, and those about a word's.
var rooms = []int{1, 2, 3, 10, 31, 32, 33, 63, 64, 65, 127, 128, 129, 130, 192, 1000, 1<<16 - 64, 1<<16 - 1, 1 << 16}

// beyond are numbers that no set of n has.
func beyond(n int) []int {
	return []int{-1, -2, -63, -64, -65, -n, n, n + 1, n + 63, n + 64, 1<<16 + 1, 1 << 32, math.MinInt, math.MinInt + 1, math.MaxInt}
}

// chance tells numbers that look like chance, the same ones each time.
func chance() func(below int) int {
	n := uint64(7)
	return func(below int) int {
		n = n*6364136223846793005 + 1442695040888963407
		return int(n>>33) % below
	}
}

// P7.1: a set of which none is taken, at the edges of what may be.
func TestNew(t *testing.T) {
	for _, n := range rooms {
		b := newBoth(n)
		if b.s == nil {
			t.Fatalf("New(%d) is nil", n)
		}
		b.like(t)
	}
}

// P7.1: what may not be is nil.
func TestNewOfWrongNumbers(t *testing.T) {
	for _, n := range []int{0, -1, -64, 1<<16 + 1, 1<<16 + 64, 1 << 32, 1<<32 + 1, math.MinInt, math.MaxInt} {
		if New(n) != nil {
			t.Errorf("New(%d) is a set", n)
		}
	}
}

// P7.1: the document's example.
func TestExample(t *testing.T) {
	s := New(3)
	took := func(want int, wantOK bool) {
		t.Helper()
		if got, ok := s.Take(); got != want || ok != wantOK {
			t.Errorf("Take = %d, %v, want %d, %v", got, ok, want, wantOK)
		}
	}
	took(0, true)
	took(1, true)
	if !s.Clear(0) {
		t.Error("0 was not taken")
	}
	took(2, true)
	took(0, true)
	took(0, false)
}

// P7.1: the hand goes on from what was taken, past what is free behind it.
func TestTheHandGoesOn(t *testing.T) {
	for _, n := range rooms[3:] {
		b := newBoth(n)
		for range n/2 + 1 {
			b.take(t)
		}
		for i := range n / 2 {
			b.clear(t, i)
		}
		for range n - n/2 - 1 {
			b.take(t)
		}
		b.like(t)
		if i, ok := b.take(t); n > 2 && (i != 0 || !ok) {
			t.Errorf("of %d: round, Take = %d, %v", n, i, ok)
		}
	}
}

// P7.1: behind the last number the hand is at 0, so a number freed there is told
// ahead of the last one.
func TestTheHandGoesRound(t *testing.T) {
	for _, n := range []int{2, 3, 63, 64, 65, 128, 1 << 16} {
		s := New(n)
		for range n {
			s.Take()
		}
		s.Clear(n - 1)
		s.Clear(0)
		if i, ok := s.Take(); i != 0 || !ok {
			t.Errorf("of %d: Take = %d, %v, want 0", n, i, ok)
		}
		if i, ok := s.Take(); i != n-1 || !ok {
			t.Errorf("of %d: Take = %d, %v, want %d", n, i, ok, n-1)
		}
	}
}

// P7.1: a number just ahead of the hand is found last, in the hand's word, too.
func TestJustAheadOfTheHand(t *testing.T) {
	for _, n := range []int{64, 65, 70, 130, 1000} {
		for last := range n {
			s := New(n)
			for range last + 1 {
				s.Take()
			}
			for i := range n {
				s.Mark(i)
			}
			s.Clear(last)
			if i, ok := s.Take(); i != last || !ok {
				t.Fatalf("of %d: Take = %d, %v, want %d", n, i, ok, last)
			}
		}
	}
}

// P7.1: neither Mark nor Clear moves the hand, nor a Take that tells false.
func TestOnlyTakeMovesTheHand(t *testing.T) {
	s := New(100)
	s.Take()
	s.Mark(50)
	s.Clear(50)
	s.Clear(0)
	s.Mark(99)
	if i, ok := s.Take(); i != 1 || !ok {
		t.Errorf("Take = %d, %v, want 1", i, ok)
	}
	s = New(3)
	for range 4 {
		s.Take()
	}
	s.Clear(1)
	s.Take()
	s.Take()
	s.Clear(0)
	s.Clear(2)
	if i, ok := s.Take(); i != 2 || !ok {
		t.Errorf("behind a Take that told false: %d, %v, want 2", i, ok)
	}
}

// P7.1: what was marked is not told by Take.
func TestTakePassesOverMarks(t *testing.T) {
	for _, n := range rooms {
		b := newBoth(n)
		for i := range n {
			if i%3 != 1 {
				b.mark(t, i)
			}
		}
		b.like(t)
		for range n/3 + 2 {
			b.take(t)
		}
		b.like(t)
	}
}

// P7.1: was it free, was it taken; of a number that there is not nothing is done.
func TestMarkAndClear(t *testing.T) {
	for _, n := range rooms {
		s := New(n)
		for _, i := range []int{0, n / 2, n - 1} {
			if s.Clear(i) || s.Has(i) || !s.Mark(i) || s.Mark(i) || !s.Has(i) || s.Count() != 1 {
				t.Errorf("of %d: the number %d is not marked", n, i)
			}
			if !s.Clear(i) || s.Clear(i) || s.Has(i) || s.Count() != 0 || !s.Mark(i) || !s.Clear(i) {
				t.Errorf("of %d: the number %d is not freed", n, i)
			}
		}
	}
}

// P7.1: numbers that there are not.
func TestNumbersThatThereAreNot(t *testing.T) {
	for _, n := range rooms {
		b := newBoth(n)
		for range n/2 + 1 {
			b.take(t)
		}
		for _, i := range beyond(n) {
			if b.s.Mark(i) || b.s.Has(i) || b.s.Clear(i) {
				t.Errorf("of %d: there is the number %d", n, i)
			}
		}
		b.like(t)
		for range n/2 + 1 {
			b.take(t)
		}
		for _, i := range beyond(n) {
			if b.s.Clear(i) || b.s.Has(i) || b.s.Mark(i) {
				t.Errorf("of %d, all taken: there is the number %d", n, i)
			}
		}
		b.like(t)
	}
}

// P7.1: acts that look like chance, step by step as the document words them.
func TestManyActs(t *testing.T) {
	next := chance()
	for _, n := range rooms {
		b := newBoth(n)
		for step := range 3000 {
			free := step/500%2 == 1 // by turns more is freed than taken
			i := next(n+4) - 2
			switch kind := next(8); {
			case kind < 3 && !free, kind < 1:
				b.take(t)
			case kind < 4 && !free, kind < 2:
				b.mark(t, i)
			case kind < 6:
				b.clear(t, i)
			default:
				b.has(t, i)
			}
			if step%500 == 250 {
				b.like(t)
				b = both{b.s.Copy(), b.m}
			}
		}
		b.like(t)
	}
}

// P7.1: a copy is like it, with its hand, and has nothing to do with it.
func TestCopy(t *testing.T) {
	for _, n := range rooms {
		b := newBoth(n)
		for range n/2 + 1 {
			b.take(t)
		}
		b.clear(t, 0)
		b.mark(t, n-1)
		c := both{b.s.Copy(), b.m.copy()}
		c.like(t)
		for i := range min(n, 300) {
			c.clear(t, n-1-i)
			b.mark(t, i)
		}
		b.like(t)
		c.like(t)
		for range min(n, 300) {
			b.take(t)
			c.take(t)
		}
		b.like(t)
		c.like(t)
	}
}

// P7.1: the hand of a copy goes on by itself.
func TestHandOfACopy(t *testing.T) {
	s := New(200)
	for range 70 {
		s.Take()
	}
	c := s.Copy()
	for i := 70; i < 80; i++ {
		if got, ok := c.Take(); got != i || !ok {
			t.Errorf("the copy's: Take = %d, %v, want %d", got, ok, i)
		}
	}
	if got, ok := s.Take(); got != 70 || !ok {
		t.Errorf("Take = %d, %v, want 70", got, ok)
	}
}

// P7.1: of nil.
func TestNil(t *testing.T) {
	var s *Set
	if i, ok := s.Take(); i != 0 || ok {
		t.Errorf("Take = %d, %v", i, ok)
	}
	for _, i := range append(beyond(0), 0, 1, 63, 64) {
		if s.Mark(i) || s.Clear(i) || s.Has(i) {
			t.Errorf("nil has the number %d", i)
		}
	}
	if s.Room() != 0 || s.Count() != 0 || len(s.All()) != 0 || s.Copy() != nil {
		t.Error("nil has room, numbers or a copy")
	}
}

// P7.1, R4: a list of what is taken shares no memory with the set, or with
// another list.
func TestAllIsNew(t *testing.T) {
	s := New(70)
	s.Mark(3)
	s.Mark(69)
	list := s.All()
	list[0] = 5
	if got := s.All(); !slices.Equal(got, []int{3, 69}) || s.Has(5) {
		t.Errorf("All = %v behind a change of another list", got)
	}
	list = append(s.All(), 1)
	if s.Has(1) || s.Count() != 2 {
		t.Errorf("%v is not a list of its own", list)
	}
}

// P7.2: all are taken, one behind the other, each once, before Take tells false,
// wherever the hand is, whatever is taken already.
func TestAllAreTaken(t *testing.T) {
	next := chance()
	for _, n := range rooms {
		s := New(n)
		for range next(n) {
			s.Take()
		}
		for i := range n {
			if next(3) > 0 {
				s.Clear(i)
			}
		}
		left := n - s.Count()
		seen := make([]bool, n)
		for _, i := range s.All() {
			seen[i] = true
		}
		for range left {
			i, ok := s.Take()
			if !ok || seen[i] {
				t.Fatalf("of %d: Take = %d, %v with %d free", n, i, ok, n-s.Count())
			}
			seen[i] = true
		}
		for range 2 {
			if i, ok := s.Take(); i != 0 || ok || s.Count() != n {
				t.Errorf("of %d: Take = %d, %v, when all are taken", n, i, ok)
			}
		}
	}
}

// P7.2: what was taken is told again only when it was freed.
func TestToldAgainWhenFreed(t *testing.T) {
	next := chance()
	for _, n := range []int{1, 3, 64, 65, 130} {
		s := New(n)
		taken := make([]bool, n)
		for range 2000 {
			if freed := next(n); next(2) == 0 && s.Clear(freed) {
				taken[freed] = false
			}
			i, ok := s.Take()
			if ok == !slices.Contains(taken, false) {
				t.Fatalf("of %d: Take tells %v", n, ok)
			}
			if ok && taken[i] {
				t.Fatalf("of %d: %d is told again", n, i)
			}
			if ok {
				taken[i] = true
			}
		}
	}
}
