package mix

import (
	"bytes"
	"math"
	"slices"
	"testing"
)

const golden = 0x9E3779B97F4A7C15

// numbers tells numbers at the edges, with one bit, with two, without one, and
// many others.
func numbers() []uint64 {
	list := []uint64{0, 1, 2, 3, math.MaxUint64, math.MaxUint64 - 1, golden}
	for i := range 64 {
		list = append(list, 1<<i, ^(uint64(1) << i), math.MaxUint64>>i)
		for j := range i {
			list = append(list, 1<<i|1<<j)
		}
	}
	n := uint64(1)
	for range 2000 {
		n = n*6364136223846793005 + 1442695040888963407
		list = append(list, n)
	}
	slices.Sort(list)
	return slices.Compact(list)
}

// slowHash is a key's number up to what is scrambled, as the document words it.
func slowHash(seed uint64, key []byte) uint64 {
	n := seed ^ 0xCBF29CE484222325
	for _, b := range key {
		n ^= uint64(b)
		n *= 0x100000001B3
	}
	return n + uint64(len(key))
}

// P2.1: numbers of which it is known what they become.
func TestScrambleKnown(t *testing.T) {
	if Scramble(0) != 0 {
		t.Errorf("Scramble(0) = %X", Scramble(0))
	}
	x := uint64(0)
	for i, want := range []uint64{
		0xE220A8397B1DCDAF, 0x6E789E6AA1B965F4, 0x06C45D188009454F,
		0xF88BB8A8724C81EC, 0x1B39896A51A8749B,
	} {
		x += golden
		if got := Scramble(x); got != want {
			t.Errorf("Scramble of %d times the number = %016X, want %016X", i+1, got, want)
		}
	}
}

// P2.1: scrambled as the document words it, step by step.
func TestScrambleAsWorded(t *testing.T) {
	for _, x := range numbers() {
		n := x ^ x/(1<<30)
		n *= 0xBF58476D1CE4E5B9
		n = n ^ n/(1<<27)
		n *= 0x94D049BB133111EB
		n = n ^ n/(1<<31)
		if got := Scramble(x); got != n {
			t.Errorf("Scramble(%X) = %016X, want %016X", x, got, n)
		}
	}
}

// P2.1: what becomes a number is told by it, both ways round.
func TestUnscramble(t *testing.T) {
	for _, x := range numbers() {
		if got := Unscramble(Scramble(x)); got != x {
			t.Errorf("Unscramble(Scramble(%X)) = %X", x, got)
		}
		if got := Scramble(Unscramble(x)); got != x {
			t.Errorf("Scramble(Unscramble(%X)) = %X", x, got)
		}
	}
	if Unscramble(0xE220A8397B1DCDAF) != golden {
		t.Errorf("Unscramble = %X, want %X", Unscramble(0xE220A8397B1DCDAF), uint64(golden))
	}
}

// P2.1: keys' numbers, with seeds.
func TestHash(t *testing.T) {
	keys := [][]byte{
		nil, {}, {0}, {0, 0}, {255}, []byte("a"), []byte("b"), []byte("ab"),
		[]byte("ba"), []byte("fox"), bytes.Repeat([]byte{255}, 64), make([]byte, 1000),
	}
	for _, seed := range []uint64{0, 1, 7, 0xCBF29CE484222325, 1 << 63, math.MaxUint64} {
		for _, key := range keys {
			if got, want := Hash(seed, key), Scramble(slowHash(seed, key)); got != want {
				t.Errorf("Hash(%X, %x) = %016X, want %016X", seed, key, got, want)
			}
		}
	}
	if got, want := Hash(0, []byte("a")), Scramble(0xAF63DC4C8601EC8C+1); got != want {
		t.Errorf("Hash(0, a) = %016X, want %016X", got, want)
	}
	if got, want := Hash(0, []byte("foobar")), Scramble(0x85944171F73967E8+6); got != want {
		t.Errorf("Hash(0, foobar) = %016X, want %016X", got, want)
	}
	if Hash(0xCBF29CE484222325, nil) != 0 {
		t.Error("the number of no bytes, with the seed that turns all off, is not 0")
	}
}

// P2.1: what differs in seed, bytes, order or length has another number.
func TestHashDiffers(t *testing.T) {
	seen := map[uint64]int{}
	for i, h := range []uint64{
		Hash(0, nil), Hash(1, nil), Hash(0, []byte{0}), Hash(0, []byte{0, 0}),
		Hash(0, []byte("ab")), Hash(0, []byte("ba")), Hash(1, []byte("ab")), Hash(1<<63, []byte("ab")),
	} {
		if was, ok := seen[h]; ok {
			t.Errorf("the numbers %d and %d are both %016X", was, i, h)
		}
		seen[h] = i
	}
}

// P2.1, R4: a key that is handed in stays as it is, with what lies behind it.
func TestHashChangesNothing(t *testing.T) {
	room := []byte("a key and more")
	Hash(3, room[:5])
	if string(room) != "a key and more" {
		t.Errorf("the key is %q then", room)
	}
}

// P2.2: the highest bits, from 1 to 30.
func TestPrefix(t *testing.T) {
	for _, h := range numbers() {
		for bits := 1; bits <= 30; bits++ {
			want := 0
			for i := range bits {
				want = want*2 + int(h>>(63-i)&1)
			}
			if got := Prefix(h, bits); got != want {
				t.Errorf("Prefix(%X, %d) = %d, want %d", h, bits, got, want)
			}
		}
	}
	if Prefix(1<<63, 2) != 2 || Prefix(math.MaxUint64, 30) != 1<<30-1 || Prefix(math.MaxUint64, 1) != 1 {
		t.Error("a prefix is another one")
	}
}

// P2.2: with another count of bits a prefix is 0.
func TestPrefixOfWrongBits(t *testing.T) {
	for _, bits := range []int{0, -1, -30, 31, 32, 63, 64, 65, 128, math.MinInt, math.MaxInt} {
		if got := Prefix(math.MaxUint64, bits); got != 0 {
			t.Errorf("Prefix of %d bits = %d", bits, got)
		}
	}
}

// P2.2: slots are all numbers whose highest bits are the prefix, in order.
func TestSlots(t *testing.T) {
	for depth := range 9 {
		for bits := range depth + 1 {
			for prefix := range 1 << bits {
				var want []int
				for slot := range 1 << depth {
					if slot>>(depth-bits) == prefix {
						want = append(want, slot)
					}
				}
				if got := Slots(prefix, bits, depth); !slices.Equal(got, want) {
					t.Errorf("Slots(%d, %d, %d) = %v, want %v", prefix, bits, depth, got, want)
				}
			}
		}
	}
}

// P2.2: the document's example, and the deepest ones.
func TestSlotsAtTheEdges(t *testing.T) {
	for _, x := range []struct {
		prefix, bits, depth int
		want                []int
	}{
		{1, 1, 3, []int{4, 5, 6, 7}},
		{0, 0, 0, []int{0}},
		{1<<20 - 1, 20, 20, []int{1<<20 - 1}},
		{1<<19 - 1, 19, 20, []int{1<<20 - 2, 1<<20 - 1}},
	} {
		if got := Slots(x.prefix, x.bits, x.depth); !slices.Equal(got, x.want) {
			t.Errorf("Slots(%d, %d, %d) = %v, want %v", x.prefix, x.bits, x.depth, got, x.want)
		}
	}
	all := Slots(0, 0, 20)
	if len(all) != 1<<20 {
		t.Fatalf("%d slots of 20 bits", len(all))
	}
	for i, slot := range all {
		if slot != i {
			t.Fatalf("the slot %d is told as %d", i, slot)
		}
	}
}

// P2.2: what may not be has no slots.
func TestSlotsOfWrongNumbers(t *testing.T) {
	for _, x := range [][3]int{
		{0, -1, 3}, {0, 4, 3}, {0, 1, 0}, {0, 0, -1}, {0, -1, -1}, {0, -2, -1},
		{0, 0, 21}, {0, 21, 21}, {0, 20, 21}, {0, 64, 64}, {0, 0, math.MaxInt},
		{1, 0, 0}, {1, 0, 3}, {2, 1, 3}, {8, 3, 3}, {1 << 20, 20, 20}, {-1, 0, 3}, {-1, 2, 3}, {-1, 20, 20},
		{math.MaxInt, 2, 3}, {math.MinInt, 2, 3}, {0, math.MinInt, 3}, {0, math.MaxInt, 3},
		{0, 0, math.MinInt}, {0, math.MinInt, math.MinInt}, {0, math.MaxInt, math.MaxInt},
	} {
		if got := Slots(x[0], x[1], x[2]); len(got) != 0 {
			t.Errorf("Slots(%d, %d, %d) has %d numbers", x[0], x[1], x[2], len(got))
		}
	}
}

// P2.2, R4: what is told shares no memory with what is told again.
func TestSlotsAreNew(t *testing.T) {
	Slots(1, 1, 3)[0] = 99
	if got := Slots(1, 1, 3); !slices.Equal(got, []int{4, 5, 6, 7}) {
		t.Errorf("Slots(1, 1, 3) = %v behind a change of another list", got)
	}
}

// P2.3: no two numbers are scrambled to one.
func TestScrambledDiffer(t *testing.T) {
	seen := map[uint64]uint64{}
	list := numbers()
	for x := range uint64(1 << 16) {
		list = append(list, x<<48, x+1<<32)
	}
	for _, x := range list {
		y := Scramble(x)
		if was, ok := seen[y]; ok && was != x {
			t.Errorf("%X and %X are both scrambled to %X", was, x, y)
		}
		seen[y] = x
	}
}

// P2.3: the slots of a prefix are those of the next bit 0, and then of 1.
func TestSlotsOfTheNextBit(t *testing.T) {
	for depth := range 11 {
		for bits := range depth {
			for prefix := range 1 << bits {
				halves := append(Slots(2*prefix, bits+1, depth), Slots(2*prefix+1, bits+1, depth)...)
				if got := Slots(prefix, bits, depth); len(got) == 0 || !slices.Equal(got, halves) {
					t.Errorf("Slots(%d, %d, %d) = %v, its halves' are %v", prefix, bits, depth, got, halves)
				}
			}
		}
	}
}
