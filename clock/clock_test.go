package clock

import (
	"math"
	"slices"
	"testing"
)

// thing is one of the model's, which is nil where a place is empty.
type thing struct {
	key, value int
	marked     bool
}

// model is a clock as the document words it: places in a ring, and a hand.
type model struct {
	places []*thing
	hand   int
}

func (m *model) find(key int) int {
	return slices.IndexFunc(m.places, func(x *thing) bool { return x != nil && x.key == key })
}

// look tells a thing, and marks it, if that is asked for.
func (m *model) look(key int, mark bool) (int, bool) {
	at := m.find(key)
	if at < 0 {
		return 0, false
	}
	m.places[at].marked = m.places[at].marked || mark
	return m.places[at].value, true
}

func (m *model) put(key, value int) (gone, was int, went bool) {
	x := &thing{key, value, true}
	if at := m.find(key); at >= 0 {
		m.places[at] = x
		return 0, 0, false
	}
	if at := slices.Index(m.places, nil); at >= 0 {
		m.places[at] = x
		return 0, 0, false
	}
	on := func() { m.hand = (m.hand + 1) % len(m.places) }
	for m.places[m.hand].marked {
		m.places[m.hand].marked = false
		on()
	}
	old := m.places[m.hand]
	m.places[m.hand] = x
	on()
	return old.key, old.value, true
}

func (m *model) drop(key int) (int, bool) {
	at := m.find(key)
	if at < 0 {
		return 0, false
	}
	value := m.places[at].value
	m.places[at] = nil
	return value, true
}

func (m *model) keys() []int {
	var list []int
	for _, x := range m.places {
		if x != nil {
			list = append(list, x.key)
		}
	}
	return list
}

// both are a clock and its model.
type both struct {
	c *Clock[int]
	m *model
}

func newBoth(room int) both { return both{New[int](room), &model{make([]*thing, room), 0}} }

// told holds a thing that a clock tells to the one that its model tells.
func told(t *testing.T, name string, key, got int, ok bool, want int, wantOK bool) {
	t.Helper()
	if got != want || ok != wantOK {
		t.Fatalf("%s(%d) = %d, %v, want %d, %v", name, key, got, ok, want, wantOK)
	}
}

func (b both) get(t *testing.T, key int) {
	t.Helper()
	got, ok := b.c.Get(key)
	want, wantOK := b.m.look(key, true)
	told(t, "Get", key, got, ok, want, wantOK)
}

func (b both) look(t *testing.T, key int) {
	t.Helper()
	got, ok := b.c.Look(key)
	want, wantOK := b.m.look(key, false)
	told(t, "Look", key, got, ok, want, wantOK)
}

func (b both) drop(t *testing.T, key int) {
	t.Helper()
	got, ok := b.c.Drop(key)
	want, wantOK := b.m.drop(key)
	told(t, "Drop", key, got, ok, want, wantOK)
}

func (b both) put(t *testing.T, key, value int) (gone int, went bool) {
	t.Helper()
	gone, was, went := b.c.Put(key, value)
	if g, w, ok := b.m.put(key, value); gone != g || was != w || went != ok {
		t.Fatalf("Put(%d, %d) = %d, %d, %v, want %d, %d, %v", key, value, gone, was, went, g, w, ok)
	}
	return gone, went
}

// like holds what a clock tells of all its things to its model.
func (b both) like(t *testing.T) {
	t.Helper()
	want := b.m.keys()
	if got := b.c.Keys(); !slices.Equal(got, want) {
		t.Fatalf("Keys = %v, want %v", got, want)
	}
	if b.c.Len() != len(want) || b.c.Room() != len(b.m.places) {
		t.Fatalf("Len, Room = %d, %d, want %d, %d", b.c.Len(), b.c.Room(), len(want), len(b.m.places))
	}
}

// chance tells numbers that look like chance, the same ones each time.
func chance() func(below int) int {
	n := uint64(7)
	return func(below int) int {
		n = n*6364136223846793005 + 1442695040888963407
		return int(n>>33) % below
	}
}

// goes puts a new thing in, and holds the one that goes to its number.
func goes(t *testing.T, c *Clock[string], key, want int) {
	t.Helper()
	if gone, _, went := c.Put(key, "new"); !went || gone != want {
		t.Errorf("Put(%d): %d goes, %v, want %d", key, gone, went, want)
	}
}

// letters tells a clock that is full: 1 is "a", 2 is "b", and so on.
func letters(room int) *Clock[string] {
	c := New[string](room)
	for i := range room {
		c.Put(i+1, string(rune('a'+i)))
	}
	return c
}

// P8.1: clocks at the edges of what may be, empty.
func TestNew(t *testing.T) {
	for _, room := range []int{1, 2, 3, 255, 1<<12 - 1, 1 << 12} {
		c := New[int](room)
		if c == nil || c.Room() != room || c.Len() != 0 || len(c.Keys()) != 0 {
			t.Errorf("New(%d) is another one", room)
		}
	}
}

// P8.1: what may not be is nil.
func TestNewOfWrongNumbers(t *testing.T) {
	for _, room := range []int{0, -1, 1<<12 + 1, 1 << 32, 1<<32 + 1, math.MinInt, math.MaxInt} {
		if New[int](room) != nil {
			t.Errorf("New(%d) is a clock", room)
		}
	}
}

// P8.1: the document's example.
func TestExample(t *testing.T) {
	c := New[string](3)
	for i, v := range []string{"a", "b", "c"} {
		if gone, was, went := c.Put(i+1, v); gone != 0 || was != "" || went {
			t.Errorf("Put(%d): %d, %q, %v", i+1, gone, was, went)
		}
	}
	if gone, was, went := c.Put(4, "d"); gone != 1 || was != "a" || !went {
		t.Errorf("Put(4): %d, %q, %v", gone, was, went)
	}
	if v, ok := c.Get(2); v != "b" || !ok {
		t.Errorf("Get(2): %q, %v", v, ok)
	}
	if gone, was, went := c.Put(5, "e"); gone != 3 || was != "c" || !went {
		t.Errorf("Put(5): %d, %q, %v", gone, was, went)
	}
	if got := c.Keys(); !slices.Equal(got, []int{4, 2, 5}) {
		t.Errorf("Keys = %v", got)
	}
}

// P8.1: a number that is there gets another thing in its place, and a mark; none
// goes for it, and the hand stays.
func TestPutAgain(t *testing.T) {
	c := letters(3)
	goes(t, c, 4, 1) // 2 and 3 have no mark, the hand is at 2
	if gone, was, went := c.Put(2, "B"); gone != 0 || was != "" || went {
		t.Errorf("Put(2): %d, %q, %v", gone, was, went)
	}
	if v, ok := c.Look(2); v != "B" || !ok {
		t.Errorf("Look(2): %q, %v", v, ok)
	}
	if got := c.Keys(); !slices.Equal(got, []int{4, 2, 3}) {
		t.Errorf("Keys = %v", got)
	}
	goes(t, c, 5, 3)
}

// P8.1: Get marks, Look does not.
func TestGetMarks(t *testing.T) {
	c := letters(4)
	goes(t, c, 5, 1) // 2, 3 and 4 have no mark, the hand is at 2
	if v, ok := c.Look(2); v != "b" || !ok {
		t.Errorf("Look(2): %q, %v", v, ok)
	}
	goes(t, c, 6, 2)
	if v, ok := c.Get(3); v != "c" || !ok {
		t.Errorf("Get(3): %q, %v", v, ok)
	}
	goes(t, c, 7, 4)
	goes(t, c, 8, 3) // which has lost its mark, 5 and 6 lose theirs
}

// P8.1: which one goes, when the hand goes over marks, and round.
func TestWhichGoes(t *testing.T) {
	for room := 1; room <= 20; room++ {
		for marked := range 1 << min(room-1, 6) {
			b := newBoth(room)
			for key := range room + 1 {
				b.put(t, key, 100+key)
			}
			for i := range room - 1 {
				if marked>>i&1 == 1 {
					b.get(t, i+1)
				}
			}
			for key := range 3 * room {
				b.put(t, 1000+key, key)
				b.like(t)
			}
		}
	}
}

// P8.1: what is not there.
func TestNotThere(t *testing.T) {
	b := newBoth(3)
	for range 2 {
		for _, key := range []int{0, -1, 5, math.MinInt, math.MaxInt} {
			b.get(t, key)
			b.look(t, key)
			b.drop(t, key)
		}
		b.like(t)
		b.put(t, 1, 10)
		b.put(t, 2, 20)
		b.put(t, 3, 30)
		b.put(t, 4, 40)
	}
	if v, ok := b.c.Get(1); v != 0 || ok {
		t.Errorf("what went is told: %d, %v", v, ok)
	}
}

// P8.1: each number may be one of a thing's, and each thing be kept, the zero
// thing, too.
func TestNumbersOfAllKinds(t *testing.T) {
	b := newBoth(6)
	keys := []int{0, -1, math.MinInt, math.MaxInt, 1 << 32, 1 << 12}
	for i, key := range keys {
		b.put(t, key, i)
	}
	for _, key := range keys {
		b.get(t, key)
	}
	b.like(t)
	if v, ok := b.c.Get(0); v != 0 || !ok {
		t.Errorf("the zero thing: %d, %v", v, ok)
	}
	b.put(t, 7, 7)
	b.like(t)
}

// P8.1: what is dropped is not there any more, and leaves its place empty; the
// first empty place is filled first, whatever was dropped first, and none goes.
func TestDrop(t *testing.T) {
	c := letters(5)
	goes(t, c, 6, 1) // the hand is at 2
	for _, key := range []int{5, 3, 6} {
		if _, ok := c.Drop(key); !ok {
			t.Errorf("Drop(%d) tells none", key)
		}
		if v, ok := c.Drop(key); v != "" || ok {
			t.Errorf("Drop(%d) again: %q, %v", key, v, ok)
		}
		if v, ok := c.Look(key); v != "" || ok {
			t.Errorf("Look(%d) behind Drop: %q, %v", key, v, ok)
		}
	}
	if got := c.Keys(); !slices.Equal(got, []int{2, 4}) || c.Len() != 2 || c.Room() != 5 {
		t.Errorf("Keys = %v, Len %d, Room %d", got, c.Len(), c.Room())
	}
	for i, want := range [][]int{{7, 2, 4}, {7, 2, 8, 4}, {7, 2, 8, 4, 9}} {
		if gone, was, went := c.Put(7+i, "x"); gone != 0 || was != "" || went {
			t.Errorf("Put(%d): %d, %q, %v", 7+i, gone, was, went)
		}
		if got := c.Keys(); !slices.Equal(got, want) {
			t.Errorf("Keys = %v, want %v", got, want)
		}
	}
	goes(t, c, 10, 2)
	goes(t, c, 11, 4) // 8 is marked
}

// P8.1: a thing that comes back behind a drop is marked, and has nothing of the
// elder one.
func TestDropAndPut(t *testing.T) {
	c := letters(3)
	goes(t, c, 4, 1)
	if v, ok := c.Drop(2); v != "b" || !ok {
		t.Errorf("Drop(2): %q, %v", v, ok)
	}
	c.Put(2, "again")
	if v, ok := c.Look(2); v != "again" || !ok {
		t.Errorf("Look(2): %q, %v", v, ok)
	}
	goes(t, c, 5, 3)
}

// P8.1: of a thing that was dropped, or that went, nothing is kept.
func TestNothingIsKept(t *testing.T) {
	c := New[*int](2)
	for key := range 3 {
		c.Put(key, new(int))
	}
	c.Drop(1)
	c.Drop(2)
	for at, p := range c.places {
		if p != (place[*int]{}) || len(c.where) != 0 {
			t.Errorf("the place %d keeps %v", at, p)
		}
	}
}

// P8.1: one place.
func TestOnePlace(t *testing.T) {
	c := letters(1)
	goes(t, c, 2, 1)
	goes(t, c, 3, 2)
	c.Get(3)
	goes(t, c, 4, 3)
	if v, ok := c.Drop(4); v != "new" || !ok || c.Len() != 0 {
		t.Errorf("Drop(4): %q, %v", v, ok)
	}
	if _, _, went := c.Put(5, "e"); went {
		t.Error("one goes out of an empty place")
	}
}

// P8.1: of nil.
func TestNil(t *testing.T) {
	var c *Clock[string]
	for _, key := range []int{0, 1, -1, math.MinInt, math.MaxInt} {
		if v, ok := c.Get(key); v != "" || ok {
			t.Errorf("Get: %q, %v", v, ok)
		}
		if v, ok := c.Look(key); v != "" || ok {
			t.Errorf("Look: %q, %v", v, ok)
		}
		if gone, was, went := c.Put(key, "x"); gone != 0 || was != "" || went {
			t.Errorf("Put: %d, %q, %v", gone, was, went)
		}
		if v, ok := c.Drop(key); v != "" || ok {
			t.Errorf("Drop: %q, %v", v, ok)
		}
	}
	if c.Len() != 0 || c.Room() != 0 || len(c.Keys()) != 0 {
		t.Error("nil has things or places")
	}
}

// P8.1, R4: a list of the numbers shares no memory with another one.
func TestKeysAreNew(t *testing.T) {
	c := letters(3)
	list := c.Keys()
	list[0] = 9
	if got := c.Keys(); !slices.Equal(got, []int{1, 2, 3}) {
		t.Errorf("Keys = %v behind a change of another list", got)
	}
	if _, ok := c.Look(9); ok {
		t.Error("9 is there")
	}
}

// P8.1: things of all kinds are kept as they are; clocks have nothing to do with
// each other.
func TestThingsOfAllKinds(t *testing.T) {
	type page struct {
		load  []byte
		dirty bool
	}
	c, d := New[*page](2), New[page](2)
	x := &page{[]byte{1}, true}
	c.Put(1, x)
	d.Put(1, page{[]byte{2}, false})
	if got, ok := c.Get(1); got != x || !ok {
		t.Error("a pointer is another one")
	}
	if got, ok := d.Get(1); !ok || got.dirty || got.load[0] != 2 {
		t.Error("a struct is another one")
	}
	c.Put(2, nil)
	if got, ok := c.Get(2); got != nil || !ok {
		t.Error("nil is not kept")
	}
	if _, was, went := c.Put(3, nil); was != x || !went {
		t.Error("the pointer does not go")
	}
	if d.Len() != 1 {
		t.Error("another clock has changed")
	}
}

// P8.1: acts that look like chance, step by step as the document words them.
func TestManyActs(t *testing.T) {
	next := chance()
	for _, room := range []int{1, 2, 3, 4, 7, 8, 16, 50, 300} {
		b := newBoth(room)
		for step := range 10000 {
			key := next(room+room/2+2) - 1
			switch kind := next(20); {
			case kind < 9:
				b.put(t, key, step)
			case kind < 14:
				b.get(t, key)
			case kind < 18:
				b.look(t, key)
			case kind < 19 || step/1000%2 == 0: // by turns it is mostly full
				b.drop(t, key)
			}
			if step%100 == 0 || room < 10 {
				b.like(t)
			}
		}
		b.like(t)
	}
}

// P8.1: the greatest clock, filled and gone over twice.
func TestGreatest(t *testing.T) {
	b := newBoth(1 << 12)
	for key := range 3 << 12 {
		b.c.Put(key, key)
		if key < 1<<12 {
			b.m.places[key] = &thing{key, key, true}
		} else {
			b.m.put(key, key)
		}
	}
	b.like(t)
}

// P8.2: there are never more things than places; one goes only where all places
// are full, and just one for one that comes: all others stay as they were.
func TestOneGoesForOneThatComes(t *testing.T) {
	next := chance()
	for _, room := range []int{1, 2, 5, 33} {
		c := New[int](room)
		there := map[int]int{}
		for step := range 3000 {
			key := next(3 * room)
			switch next(5) {
			case 0:
				c.Get(key)
			case 1:
				c.Drop(key)
				delete(there, key)
			default:
				_, was := there[key]
				full := len(there) == room
				gone, value, went := c.Put(key, step)
				if went != (full && !was) {
					t.Fatalf("of %d places, %d full, Put(%d) lets one go: %v", room, len(there), key, went)
				}
				if went && (gone == key || value != there[gone]) {
					t.Fatalf("Put(%d): %d goes with %d, want %d", key, gone, value, there[gone])
				}
				if went {
					delete(there, gone)
				}
				there[key] = step
			}
			holds(t, c, there)
		}
	}
}

// holds holds a clock to having just these things.
func holds(t *testing.T, c *Clock[int], there map[int]int) {
	t.Helper()
	keys := c.Keys()
	if c.Len() > c.Room() || c.Len() != len(there) || len(keys) != len(there) {
		t.Fatalf("of %d places: Len %d, %d keys, want %d", c.Room(), c.Len(), len(keys), len(there))
	}
	for _, key := range keys {
		value, ok := there[key]
		if got, is := c.Look(key); !ok || !is || got != value {
			t.Fatalf("%d is %d, %v, want %d, %v", key, got, is, value, ok)
		}
	}
}
