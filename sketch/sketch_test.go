package sketch

import (
	"bytes"
	"encoding/binary"
	"math"
	"math/rand/v2"
	"slices"
	"testing"

	"sgraffito/api"
)

const golden = 0x9E3779B97F4A7C15

// widths are all that a sketch may have.
var widths = []int{2, 4, 8, 16, 32, 64, 128, 256, 512, 1024, 2048, 4096}

// need holds what was told to what should be.
func need[T comparable](t *testing.T, name string, got, want T) {
	t.Helper()
	if got != want {
		t.Fatalf("%s: %v, want %v", name, got, want)
	}
}

// made tells a new sketch.
func made(t *testing.T, width int) *Sketch {
	t.Helper()
	s := New(width)
	if s == nil {
		t.Fatalf("no sketch of width %d", width)
	}
	return s
}

// read tells the sketch of bytes.
func read(t *testing.T, b []byte) *Sketch {
	t.Helper()
	s, e := Unpack(b)
	if e != api.OK || s == nil {
		t.Fatalf("Unpack of %d bytes: %v, error %d", len(b), s, e)
	}
	return s
}

// refused holds Unpack to refusing bytes.
func refused(t *testing.T, name string, b []byte) {
	t.Helper()
	s, e := Unpack(b)
	need(t, name+": the error", e, api.ErrForm)
	need(t, name+": the sketch", s, nil)
}

// worded is a sketch as the chapter words it: its rows stand one behind the
// other.
type worded struct {
	width, age int
	counts     []int
}

func newWorded(width int) *worded {
	return &worded{width: width, counts: make([]int, 4*width)}
}

// places tells where a number's counts stand.
func (w *worded) places(h uint64) []int {
	var list []int
	for i := range 4 {
		x := h
		for range i {
			x += golden
		}
		x = (x ^ x/(1<<30)) * 0xBF58476D1CE4E5B9
		x = (x ^ x/(1<<27)) * 0x94D049BB133111EB
		x ^= x / (1 << 31)
		list = append(list, i*w.width+int(x%uint64(w.width)))
	}
	return list
}

func (w *worded) guess(h uint64) int {
	least := 15
	for _, at := range w.places(h) {
		if w.counts[at] < least {
			least = w.counts[at]
		}
	}
	return least
}

func (w *worded) mark(h uint64) int {
	least := w.guess(h)
	for _, at := range w.places(h) {
		if w.counts[at] == least && least < 15 {
			w.counts[at] = least + 1
		}
	}
	w.age++
	if w.age == 10*w.width {
		w.halve()
	}
	return w.guess(h)
}

func (w *worded) halve() {
	for at, n := range w.counts {
		w.counts[at] = (n - n%2) / 2
	}
	w.age = 0
}

func (w *worded) pack() []byte {
	b := binary.LittleEndian.AppendUint16(nil, uint16(w.width))
	b = binary.LittleEndian.AppendUint32(b, uint32(w.age))
	for at := 0; at < len(w.counts); at += 2 {
		b = append(b, byte(w.counts[at]+16*w.counts[at+1]))
	}
	return b
}

// numbers tells so many numbers, those at the edges among them.
func numbers(random *rand.Rand, n int) []uint64 {
	list := []uint64{0, 1, math.MaxUint64, golden, -3 * golden & math.MaxUint64}
	for len(list) < n {
		list = append(list, random.Uint64()>>random.IntN(64))
	}
	return list[:n]
}

// like holds a sketch to a worded one.
func like(t *testing.T, name string, s *Sketch, w *worded, some []uint64) {
	t.Helper()
	need(t, name+": Age", s.Age(), w.age)
	need(t, name+": Width", s.Width(), w.width)
	for _, h := range some {
		need(t, name+": Guess", s.Guess(h), w.guess(h))
	}
	if b := s.Pack(); !bytes.Equal(b, w.pack()) {
		t.Fatalf("%s: Pack: %x, want %x", name, b, w.pack())
	}
}

// P23.1: a width is a power of two from 2 to 2^12; else there is no sketch. A new
// one is of noughts.
func TestNew(t *testing.T) {
	for width := -5000; width <= 10000; width++ {
		s := New(width)
		need(t, "a sketch", s != nil, slices.Contains(widths, width))
		if s != nil {
			like(t, "new", s, newWorded(width), []uint64{0, 1, 5, math.MaxUint64})
		}
	}
	for _, width := range []int{math.MinInt, math.MinInt + 2, -1 << 32, 1 << 13, 1 << 16, 1<<16 + 2, 1 << 31, 1 << 32, 1<<32 + 16, 1 << 62, math.MaxInt} {
		if New(width) != nil {
			t.Errorf("a sketch of width %d", width)
		}
	}
}

// P23.1: the chapter's example.
func TestExample(t *testing.T) {
	s := made(t, 16)
	need(t, "Mark", s.Mark(5), 1)
	need(t, "Mark", s.Mark(5), 2)
	need(t, "Guess", s.Guess(5), 2)
	s.Halve()
	need(t, "Guess behind Halve", s.Guess(5), 1)
}

// P23.1: a mark counts at the places that are known of a number: what the first
// multiples of the rows' step become, when they are scrambled, is known.
func TestPlacesKnown(t *testing.T) {
	known := []uint64{0, 0xE220A8397B1DCDAF, 0x6E789E6AA1B965F4, 0x06C45D188009454F, 0xF88BB8A8724C81EC, 0x1B39896A51A8749B}
	for _, width := range widths {
		for first := range 3 {
			s, want := made(t, width), newWorded(width)
			need(t, "Mark", s.Mark(uint64(first)*golden), 1)
			want.age = 1
			for row := range 4 {
				want.counts[row*width+int(known[first+row]%uint64(width))] = 1
			}
			like(t, "one mark", s, want, nil)
		}
	}
}

// P23.1: only the least counts grow.
func TestMarkLeast(t *testing.T) {
	s, w := made(t, 2), newWorded(2)
	// Among the first numbers there are some that share places with 0, and some
	// that do not.
	for h := range uint64(8) {
		need(t, "Mark", s.Mark(h), w.mark(h))
		like(t, "marked", s, w, []uint64{0, 1, 2, 3, 4, 5, 6, 7})
	}
	grown := 0
	for _, n := range w.counts {
		grown += n
	}
	if grown == 4*8 {
		t.Error("no mark left out a count")
	}
}

// P23.1: no count goes above 15, however often a number is marked; the age goes
// on.
func TestFull(t *testing.T) {
	s, w := made(t, 64), newWorded(64)
	for i := 1; i < 640; i++ {
		need(t, "Mark", s.Mark(7), min(i, 15))
		w.mark(7)
		need(t, "Age", s.Age(), i)
	}
	like(t, "full", s, w, []uint64{7, 8})
	need(t, "the mark that halves", s.Mark(7), 7)
	need(t, "Age", s.Age(), 0)
	w.mark(7)
	like(t, "halved", s, w, []uint64{7, 8})
}

// P23.1: the mark that makes the age ten times the width halves all counts, no
// other one does.
func TestAge(t *testing.T) {
	for _, width := range widths {
		s, w := made(t, width), newWorded(width)
		for i := range 20*width + 1 {
			h := uint64(i % 3)
			need(t, "Mark", s.Mark(h), w.mark(h))
			need(t, "Age", s.Age(), (i+1)%(10*width))
		}
		like(t, "aged", s, w, []uint64{0, 1, 2, 3})
	}
}

// P23.1: Halve rounds down, and sets the age back; of noughts it leaves noughts.
func TestHalve(t *testing.T) {
	s, w := made(t, 16), newWorded(16)
	s.Halve()
	like(t, "of noughts", s, w, []uint64{5})
	for _, marks := range []int{1, 2, 3, 14, 15, 16} {
		s, w = made(t, 16), newWorded(16)
		for range marks {
			s.Mark(5)
			w.mark(5)
		}
		for n := min(marks, 15); n > 0; {
			s.Halve()
			w.halve()
			n /= 2
			need(t, "Guess", s.Guess(5), n)
			need(t, "Age", s.Age(), 0)
			like(t, "halved", s, w, []uint64{5, 6})
		}
	}
}

// P23.1: Admit asks whether the new one's guess is above the old one's: as great
// is not above.
func TestAdmit(t *testing.T) {
	s := made(t, 4096)
	need(t, "of noughts", s.Admit(1, 2), false)
	s.Mark(1)
	need(t, "1 to 0", s.Admit(1, 2), true)
	need(t, "0 to 1", s.Admit(2, 1), false)
	need(t, "a number to itself", s.Admit(1, 1), false)
	s.Mark(2)
	need(t, "1 to 1", s.Admit(1, 2), false)
	need(t, "1 to 1, turned round", s.Admit(2, 1), false)
	s.Mark(2)
	need(t, "1 to 2", s.Admit(1, 2), false)
	need(t, "2 to 1", s.Admit(2, 1), true)
	need(t, "Age", s.Age(), 3)
}

// P23.1, P23.2: of nil all is 0, false, nothing.
func TestNil(t *testing.T) {
	for _, s := range []*Sketch{nil, {}} {
		need(t, "Mark", s.Mark(5), 0)
		need(t, "Guess", s.Guess(5), 0)
		s.Halve()
		need(t, "Age", s.Age(), 0)
		need(t, "Width", s.Width(), 0)
		need(t, "Admit", s.Admit(5, 6), false)
		need(t, "Pack", len(s.Pack()), 0)
	}
}

// P23.1, P23.2: whatever is done, it goes as the chapter words it; what is read of
// the bytes goes on in its place.
func TestWalk(t *testing.T) {
	for seed := range uint64(60) {
		random := rand.New(rand.NewPCG(seed, 23))
		width := widths[random.IntN(7)]
		some := numbers(random, 1+random.IntN(40))
		s, w := made(t, width), newWorded(width)
		for range 600 {
			h := some[min(random.IntN(len(some)), random.IntN(len(some)))]
			switch random.IntN(40) {
			case 0:
				s.Halve()
				w.halve()
			case 1:
				s = read(t, s.Pack())
			case 2:
				old := some[random.IntN(len(some))]
				need(t, "Admit", s.Admit(h, old), w.guess(h) > w.guess(old))
			default:
				need(t, "Mark", s.Mark(h), w.mark(h))
			}
			need(t, "Age", s.Age(), w.age)
			need(t, "Guess", s.Guess(h), w.guess(h))
		}
		like(t, "at the end", s, w, some)
	}
}

// P23.2: the width in 2 bytes, the age in 4, the counts row by row, two in a byte,
// the first one in its lower half.
func TestPack(t *testing.T) {
	s := made(t, 2)
	b := make([]byte, 10)
	b[0] = 2
	if !bytes.Equal(s.Pack(), b) {
		t.Fatalf("of noughts: %x, want %x", s.Pack(), b)
	}
	b = []byte{2, 0, 19, 0, 0, 0, 0x21, 0x43, 0x65, 0xF7}
	s = read(t, b)
	if !bytes.Equal(s.Pack(), b) {
		t.Fatalf("%x, want %x", s.Pack(), b)
	}
	want := &worded{width: 2, age: 19, counts: []int{1, 2, 3, 4, 5, 6, 7, 15}}
	like(t, "small", s, want, []uint64{0, 1, 2, 3, 4, 5, 6, 7, 8, 9})

	b = make([]byte, 6+2*4096)
	copy(b, []byte{0x00, 0x10, 0xFF, 0x9F, 0, 0}) // 4096, and one less than ten times that
	s = read(t, b)
	need(t, "Width", s.Width(), 4096)
	need(t, "Age", s.Age(), 40959)
	if !bytes.Equal(s.Pack(), b) {
		t.Fatal("of width 4096: other bytes")
	}
	need(t, "Mark", s.Mark(1), 0)
	need(t, "Age behind it", s.Age(), 0)
}

// P23.2: any counts are a sketch's, whatever the age is below ten times the width.
func TestUnpackAny(t *testing.T) {
	random := rand.New(rand.NewPCG(2, 23))
	for _, width := range widths {
		for _, age := range []int{0, 1, 10*width - 1, random.IntN(10 * width)} {
			w := newWorded(width)
			w.age = age
			for at := range w.counts {
				w.counts[at] = random.IntN(16)
			}
			s := read(t, w.pack())
			some := numbers(random, 20)
			like(t, "read", s, w, some)
			for range 2 {
				for _, h := range some {
					need(t, "Mark", s.Mark(h), w.mark(h))
				}
			}
			like(t, "marked", s, w, some)
		}
	}
}

// P23.2: bytes that are no sketch's: of another length, of a width that may not
// be, too old.
func TestUnpackRefused(t *testing.T) {
	refused(t, "nil", nil)
	for _, width := range widths[:8] {
		b := newWorded(width).pack()
		read(t, b)
		for n := range b {
			refused(t, "cut off", b[:n:n])
		}
		for n := 1; n < 9; n++ {
			refused(t, "too long", append(slices.Clone(b), make([]byte, n)...))
		}
		refused(t, "twice", append(slices.Clone(b), b...))
		for _, age := range []int{10 * width, 10*width + 1, 1 << 16, 1 << 24, 1<<31 - 1, 1 << 31, math.MaxUint32} {
			if age >= 10*width {
				binary.LittleEndian.PutUint32(b[2:], uint32(age))
				refused(t, "too old", b)
			}
		}
	}
	for width := range 1 << 16 {
		if !slices.Contains(widths, width) {
			b := make([]byte, 6+2*min(width, 200))
			binary.LittleEndian.PutUint16(b, uint16(width))
			refused(t, "the width", b)
		}
	}
	long := make([]byte, 6+2*8192)
	binary.LittleEndian.PutUint16(long, 8192)
	refused(t, "a width of 2^13", long)
}

// P23.2: whatever Unpack reads of bytes is packed as just these.
func TestUnpackSpoilt(t *testing.T) {
	random := rand.New(rand.NewPCG(3, 23))
	right := 0
	for range 20000 {
		w := newWorded(widths[random.IntN(4)])
		w.age = random.IntN(10 * w.width)
		b := w.pack()
		for range 1 + random.IntN(3) {
			b[min(random.IntN(len(b)), random.IntN(len(b)))] ^= 1 << random.IntN(8)
		}
		s, e := Unpack(b)
		width, age := int(binary.LittleEndian.Uint16(b)), int(binary.LittleEndian.Uint32(b[2:]))
		is := slices.Contains(widths, width) && len(b) == 6+2*width && age < 10*width
		need(t, "read", e == api.OK, is)
		if !is {
			need(t, "the error", e, api.ErrForm)
			need(t, "the sketch", s, nil)
			continue
		}
		right++
		if !bytes.Equal(s.Pack(), b) {
			t.Fatalf("%x is packed as %x", b, s.Pack())
		}
	}
	if right < 1000 {
		t.Errorf("only %d of the bytes were right", right)
	}
}

// P23.3: as long as nothing was halved, a guess is at least as great as how often
// the number was marked, or 15.
func TestNeverBelow(t *testing.T) {
	for seed := range uint64(40) {
		random := rand.New(rand.NewPCG(seed, 233))
		width := widths[random.IntN(len(widths))]
		some := numbers(random, 1+random.IntN(3*width))
		marks := map[uint64]int{}
		s := made(t, width)
		for range min(10*width-1, 3000) {
			h := some[min(random.IntN(len(some)), random.IntN(len(some)))]
			marks[h]++
			if got := s.Mark(h); got < min(marks[h], 15) || got > 15 {
				t.Fatalf("Mark: %d, marked %d times", got, marks[h])
			}
		}
		for _, h := range some {
			if got := s.Guess(h); got < min(marks[h], 15) || got > 15 {
				t.Fatalf("Guess: %d, marked %d times", got, marks[h])
			}
		}
	}
}

// P23.3: a sketch that is read of its bytes goes on as the one that was packed.
func TestReadAsItWas(t *testing.T) {
	random := rand.New(rand.NewPCG(4, 23))
	for _, width := range widths[:8] {
		s := made(t, width)
		for range 15 * width {
			s.Mark(uint64(random.IntN(width)))
		}
		o := read(t, s.Pack())
		for range 15 * width {
			h := uint64(random.IntN(2 * width))
			need(t, "Guess", o.Guess(h), s.Guess(h))
			need(t, "Mark", o.Mark(h), s.Mark(h))
			need(t, "Age", o.Age(), s.Age())
		}
		if !bytes.Equal(s.Pack(), o.Pack()) {
			t.Fatal("other bytes")
		}
	}
}

// R4: what is handed in is not changed and not kept, what is handed out is not
// kept, nor another answer's; one sketch is not another one.
func TestMemory(t *testing.T) {
	s := made(t, 4)
	other := made(t, 4)
	for range 3 {
		s.Mark(9)
	}
	need(t, "another sketch", other.Guess(9), 0)
	whole := append(s.Pack(), 1, 2, 3)
	b := whole[:len(whole)-3]
	was := slices.Clone(whole)
	o := read(t, b)
	o.Mark(9)
	if !bytes.Equal(whole, was) {
		t.Error("what was handed in was changed")
	}
	for at := range b {
		b[at] = 0xFF
	}
	need(t, "what was read", o.Guess(9), 4)
	need(t, "its width", o.Width(), 4)
	first, second := s.Pack(), s.Pack()
	for at := range first {
		first[at] = 0xFF
	}
	if !bytes.Equal(second, was[:len(second)]) || !bytes.Equal(s.Pack(), second) {
		t.Error("what was handed out is kept")
	}
	need(t, "what was packed", s.Guess(9), 3)
}
