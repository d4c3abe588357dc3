package crc

import (
	"bytes"
	"testing"
)

// slowRow is what the document says becomes of a byte alone in 8 places.
func slowRow(b byte) uint32 {
	n := uint32(b)
	for range 8 {
		out := n & 1
		n >>= 1
		if out == 1 {
			n ^= 0x82F63B78
		}
	}
	return n
}

// slowSum is the check as the document words it, bit by bit, without a table.
func slowSum(b []byte) uint32 {
	n := uint32(0xFFFFFFFF)
	for _, x := range b {
		n ^= uint32(x)
		n = n>>8 ^ slowRow(byte(n))
	}
	return n ^ 0xFFFFFFFF
}

// some tells so many bytes that differ much from one another.
func some(length int) []byte {
	b := make([]byte, length)
	n := uint32(length)*7919 + 17
	for i := range b {
		n = n*1664525 + 1013904223
		b[i] = byte(n >> 24)
	}
	return b
}

// up tells the bytes 0, 1, 2 and so on.
func up(length int) []byte {
	b := make([]byte, length)
	for i := range b {
		b[i] = byte(i)
	}
	return b
}

// P1.1: each row of the table.
func TestTable(t *testing.T) {
	table := Table()
	for i := range 256 {
		if want := slowRow(byte(i)); table[i] != want {
			t.Errorf("Table()[%d] = %08X, want %08X", i, table[i], want)
		}
	}
}

// P1.1: a table that was told is another one than the next.
func TestTableIsNew(t *testing.T) {
	table := Table()
	clear(table[:])
	if again := Table(); again[1] != 0xF26B8303 {
		t.Errorf("Table()[1] = %08X behind a change of another table", again[1])
	}
	if Sum([]byte("123456789")) != 0xE3069283 {
		t.Error("Sum is another one behind a change of a table")
	}
}

// P1.1: checks that are known.
func TestSumKnown(t *testing.T) {
	down := up(32)
	for i := range down {
		down[i] = byte(31 - i)
	}
	for _, x := range []struct {
		b    []byte
		want uint32
	}{
		{nil, 0},
		{[]byte{}, 0},
		{[]byte("a"), 0xC1D04330},
		{[]byte("123456789"), 0xE3069283},
		{make([]byte, 32), 0x8A9136AA},
		{bytes.Repeat([]byte{255}, 32), 0x62A8AB43},
		{up(32), 0x46DD794E},
		{down, 0x113FDB5C},
	} {
		if got := Sum(x.b); got != x.want {
			t.Errorf("Sum(%x) = %08X, want %08X", x.b, got, x.want)
		}
	}
}

// P1.1: of each byte alone, and of rows of many lengths.
func TestSumAsWorded(t *testing.T) {
	for i := range 256 {
		b := []byte{byte(i)}
		if got, want := Sum(b), slowSum(b); got != want {
			t.Errorf("Sum(%x) = %08X, want %08X", b, got, want)
		}
	}
	for length := range 600 {
		b := some(length)
		if got, want := Sum(b), slowSum(b); got != want {
			t.Errorf("Sum of %d bytes = %08X, want %08X", length, got, want)
		}
	}
}

// P1.1: a check that goes on is that of all bytes, wherever they are cut.
func TestAdd(t *testing.T) {
	b := some(40)
	want := slowSum(b)
	for cut := range len(b) + 1 {
		if got := Add(Sum(b[:cut]), b[cut:]); got != want {
			t.Errorf("cut at %d: %08X, want %08X", cut, got, want)
		}
		if got := Add(Add(Sum(b[:cut/2]), b[cut/2:cut]), b[cut:]); got != want {
			t.Errorf("cut at %d and %d: %08X, want %08X", cut/2, cut, got, want)
		}
	}
	if got := Add(0, b); got != want {
		t.Errorf("behind nothing: %08X, want %08X", got, want)
	}
	for _, sum := range []uint32{0, 1, 0x80000000, 0xE3069283, 0xFFFFFFFF} {
		if Add(sum, nil) != sum || Add(sum, []byte{}) != sum {
			t.Errorf("nothing behind %08X changes it", sum)
		}
	}
}

// P1.1: pieces are as all their bytes, empty ones are nothing.
func TestPieces(t *testing.T) {
	if Pieces(nil) != 0 || Pieces([][]byte{}) != 0 || Pieces([][]byte{nil, {}, nil}) != 0 {
		t.Error("pieces without bytes have not the check 0")
	}
	b := some(24)
	want := slowSum(b)
	for first := range len(b) + 1 {
		for second := first; second <= len(b); second++ {
			got := Pieces([][]byte{nil, b[:first], b[first:second], {}, b[second:]})
			if got != want {
				t.Errorf("cut at %d and %d: %08X, want %08X", first, second, got, want)
			}
		}
	}
	if Pieces([][]byte{b}) != want {
		t.Error("one piece has not its own check")
	}
	if Pieces([][]byte{b[12:], b[:12]}) == want {
		t.Error("the order of pieces does not matter")
	}
	single := make([][]byte, len(b))
	for i := range b {
		single[i] = b[i : i+1]
	}
	if Pieces(single) != want {
		t.Error("pieces of one byte have not the check of all")
	}
}

// P1.1, R4: what is handed in stays as it is, what lies behind its end too.
func TestNothingIsChanged(t *testing.T) {
	room := some(64)
	was := bytes.Clone(room)
	b := room[:20]
	pieces := [][]byte{room[:5], room[5:20], room[20:30]}[:2]
	Sum(b)
	Add(7, b)
	Pieces(pieces)
	if !bytes.Equal(room, was) {
		t.Error("bytes that were handed in are others")
	}
	all := pieces[:3]
	if len(all[0]) != 5 || len(all[1]) != 15 || len(all[2]) != 10 {
		t.Error("pieces that were handed in are others")
	}
}

// flip turns the bits of a pattern from a bit on, the lowest bit of a byte
// first; bits beyond the end are left out. Did any turn?
func flip(b []byte, from int, pattern uint32) bool {
	turned := false
	for i := range 32 {
		at := from + i
		if pattern>>i&1 == 1 && at < 8*len(b) {
			b[at/8] ^= 1 << (at % 8)
			turned = true
		}
	}
	return turned
}

// patterns tells what may be turned within 32 bits: one bit, two, bits in a
// row, the document's own number (which the steps of a check know best), and
// many others.
func patterns() []uint32 {
	list := []uint32{0x82F63B78, 0x1EDC6F41, 0xFFFFFFFF, 0x80000001, 0xF0F0F0F0}
	for i := range 32 {
		list = append(list, 1<<i, 0xFFFFFFFF>>i)
		for j := range i {
			list = append(list, 1<<i|1<<j)
		}
	}
	n := uint32(1)
	for range 200 {
		n = n*1664525 + 1013904223
		list = append(list, n)
	}
	return list
}

// P1.2: what is changed within 32 bits in a row is told, wherever it stands.
func TestChangedBitsAreTold(t *testing.T) {
	for _, length := range []int{1, 2, 3, 4, 5, 11} {
		b := some(length)
		was := Sum(b)
		for from := range 8 * length {
			for _, pattern := range patterns() {
				other := bytes.Clone(b)
				if flip(other, from, pattern) && Sum(other) == was {
					t.Fatalf("%d bytes, bits %08X from bit %d on: the same check", length, pattern, from)
				}
			}
		}
	}
}

// P1.2: rows that differ within four bytes alone all have checks of their own.
func TestFourBytesDiffer(t *testing.T) {
	seen := map[uint32]int{}
	for n := range 1 << 16 {
		sum := Sum([]byte{byte(n), 0, byte(n >> 8), 1})
		if was, ok := seen[sum]; ok {
			t.Fatalf("%d and %d have the check %08X", was, n, sum)
		}
		seen[sum] = n
	}
}

func BenchmarkSumOfSector(b *testing.B) {
	sector := some(96)
	for b.Loop() {
		Sum(sector)
	}
}
