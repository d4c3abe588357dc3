package flash

import (
	"bytes"
	"math"
	"slices"
	"testing"

	"sgraffito/api"
)

// full tells so many bytes of one kind.
func full(c byte, length int) []byte { return bytes.Repeat([]byte{c}, length) }

// over tells the first n bytes of the one, and the other one's behind them.
func over(front []byte, n int, below []byte) []byte {
	return append(slices.Clone(front[:n]), below[n:]...)
}

// need fails the test at once, if an error is another one.
func need(t *testing.T, name string, got, want api.Errno) {
	t.Helper()
	if got != want {
		t.Fatalf("%s: error %d, want %d", name, got, want)
	}
}

// reads holds a sector to what it reads.
func reads(t *testing.T, name string, d *Device, at int, want []byte) {
	t.Helper()
	got, e := d.Read(at)
	if e != api.OK || !bytes.Equal(got, want) {
		t.Errorf("%s: the sector %d reads %x, error %d, want %x", name, at, got, e, want)
	}
}

// state holds a device to its counts.
func state(t *testing.T, name string, d *Device, down bool, loose, acts int) {
	t.Helper()
	if d.Down() != down || d.Loose() != loose || d.Acts() != acts {
		t.Errorf("%s: down %v, loose %d, acts %d, want %v, %d, %d", name, d.Down(), d.Loose(), d.Acts(), down, loose, acts)
	}
}

// P4.1: devices at the edges of what may be, all 0.
func TestNew(t *testing.T) {
	for _, sectors := range []int{1, 2, 300, 1<<14 - 1, 1 << 14} {
		for _, size := range []int{96, 97, 511, 512} {
			d := New(sectors, size)
			if d == nil || d.Sectors() != sectors || d.Size() != size {
				t.Fatalf("New(%d, %d) is another one", sectors, size)
			}
			state(t, "a new device", d, false, 0, 0)
			for _, at := range []int{0, sectors / 2, sectors - 1} {
				reads(t, "a new device", d, at, make([]byte, size))
			}
		}
	}
}

// P4.1: devices that may not be.
func TestNewOfWrongNumbers(t *testing.T) {
	for _, x := range [][2]int{
		{0, 96}, {-1, 96}, {math.MinInt, 96}, {1<<14 + 1, 96}, {math.MaxInt, 96},
		{1, 95}, {1, 0}, {1, -96}, {1, math.MinInt}, {1, 513}, {1, math.MaxInt}, {0, 0},
	} {
		if New(x[0], x[1]) != nil {
			t.Errorf("New(%d, %d) is a device", x[0], x[1])
		}
	}
}

// P4.1: each sector reads what was written last, loose or fast.
func TestReadWhatWasWritten(t *testing.T) {
	d := New(3, 96)
	need(t, "write", d.Write(0, full(1, 96)), api.OK)
	need(t, "write", d.Write(2, full(2, 96)), api.OK)
	need(t, "write", d.Write(0, full(3, 96)), api.OK)
	for _, name := range []string{"loose", "fast"} {
		reads(t, name, d, 0, full(3, 96))
		reads(t, name, d, 1, full(0, 96))
		reads(t, name, d, 2, full(2, 96))
		need(t, "sync", d.Sync(), api.OK)
	}
	need(t, "write", d.Write(0, full(0, 96)), api.OK)
	reads(t, "0 upon what is fast", d, 0, full(0, 96))
	need(t, "sync", d.Sync(), api.OK)
	reads(t, "fast 0", d, 0, full(0, 96))
	state(t, "all of it", d, false, 0, 7)
}

// P4.1: wrong sectors and sizes, the sector's error first; nothing is done, and
// none is counted.
func TestWrongSectorsAndSizes(t *testing.T) {
	d := New(2, 96)
	need(t, "write", d.Write(1, full(1, 96)), api.OK)
	for _, at := range []int{-1, 2, 3, math.MinInt, math.MaxInt} {
		b, e := d.Read(at)
		if b != nil {
			t.Errorf("a sector that there is not reads %x", b)
		}
		need(t, "read", e, api.ErrRange)
		need(t, "write", d.Write(at, full(2, 96)), api.ErrRange)
		need(t, "write of a wrong size", d.Write(at, full(2, 95)), api.ErrRange)
	}
	for _, length := range []int{0, 1, 95, 97, 512} {
		need(t, "write", d.Write(1, full(2, length)), api.ErrSize)
	}
	need(t, "write of nil", d.Write(1, nil), api.ErrSize)
	state(t, "wrong ones", d, false, 1, 1)
	reads(t, "wrong ones", d, 1, full(1, 96))
	if len(d.Past(1)) != 2 {
		t.Errorf("the past has %d", len(d.Past(1)))
	}
}

// P4.2: armed, a device goes down at just the n-th of its writes and syncs; what
// tells ErrRange or ErrSize, and what reads, does not count.
func TestArm(t *testing.T) {
	for n := 1; n <= 7; n++ {
		d := New(2, 96)
		need(t, "sync", d.Sync(), api.OK)
		d.Arm(n)
		for i := 1; i <= n; i++ {
			need(t, "a wrong sector", d.Write(2, full(9, 96)), api.ErrRange)
			need(t, "a wrong size", d.Write(0, full(9, 97)), api.ErrSize)
			d.Read(0)
			d.Read(5)
			need(t, "rot", d.Rot(1, 0, 1), api.OK)
			want := api.OK
			if i == n {
				want = api.ErrDown
			}
			if i%3 == 0 {
				need(t, "sync", d.Sync(), want)
			} else {
				need(t, "write", d.Write(0, full(byte(i), 96)), want)
			}
		}
		state(t, "armed", d, true, map[int]int{1: 1, 2: 2, 3: 2, 4: 1, 5: 2, 6: 2, 7: 1}[n], n+1)
	}
}

// P4.2: armed with a number below 1, a device is not armed any more; armed anew,
// it counts from there on.
func TestArmAnew(t *testing.T) {
	for _, n := range []int{0, -1, math.MinInt} {
		d := New(1, 96)
		d.Arm(1)
		d.Arm(n)
		need(t, "sync", d.Sync(), api.OK)
		need(t, "write", d.Write(0, full(1, 96)), api.OK)
		d.Arm(3)
		need(t, "sync", d.Sync(), api.OK)
		d.Arm(2)
		need(t, "sync", d.Sync(), api.OK)
		need(t, "sync", d.Sync(), api.ErrDown)
		state(t, "armed anew", d, true, 0, 5)
	}
	d := New(1, 96)
	d.Arm(math.MaxInt)
	need(t, "write", d.Write(0, full(1, 96)), api.OK)
	state(t, "armed for long", d, false, 1, 1)
}

// P4.1, P4.2: down a device tells ErrDown, ahead of other errors, and counts
// nothing, however it is armed; what it is asked besides it tells.
func TestDown(t *testing.T) {
	d := New(2, 96)
	need(t, "write", d.Write(0, full(1, 96)), api.OK)
	d.Arm(1)
	need(t, "write", d.Write(1, full(2, 96)), api.ErrDown)
	for _, n := range []int{0, 5, -1, 1, math.MaxInt} {
		d.Arm(n)
		for _, at := range []int{0, 1, 2, -1} {
			b, e := d.Read(at)
			if b != nil {
				t.Errorf("down it reads %x", b)
			}
			need(t, "read", e, api.ErrDown)
			need(t, "write", d.Write(at, full(3, 96)), api.ErrDown)
			need(t, "write of a wrong size", d.Write(at, nil), api.ErrDown)
		}
		need(t, "sync", d.Sync(), api.ErrDown)
		state(t, "down", d, true, 2, 2)
	}
	if d.Sectors() != 2 || d.Size() != 96 {
		t.Error("down it is of another size")
	}
	if p := d.Past(1); len(p) != 2 || p[0][0] != 2 || p[1][0] != 0 {
		t.Errorf("down the past is %x", p)
	}
}

// P4.2: the write at which a device goes down is loose, and has a fate; the sync
// is not done.
func TestGoingDown(t *testing.T) {
	d := New(2, 96)
	d.Arm(2)
	need(t, "write", d.Write(0, full(1, 96)), api.OK)
	need(t, "write", d.Write(1, full(2, 96)), api.ErrDown)
	d.Crash([]int{7, 9})
	reads(t, "torn", d, 0, over(full(1, 96), 7, full(0, 96)))
	reads(t, "torn", d, 1, over(full(2, 96), 9, full(0, 96)))
	state(t, "behind it", d, false, 0, 2)
	d.Arm(2)
	need(t, "write", d.Write(0, full(3, 96)), api.OK)
	need(t, "sync", d.Sync(), api.ErrDown)
	state(t, "ahead of the crash", d, true, 1, 4)
	d.Crash(nil)
	reads(t, "a sync that was not done", d, 0, over(full(1, 96), 7, full(0, 96)))
}

// P4.2: behind a crash a device is neither down nor armed.
func TestBehindACrash(t *testing.T) {
	d := New(1, 96)
	d.Arm(1)
	d.Crash(nil)
	need(t, "not armed", d.Sync(), api.OK)
	d.Arm(1)
	need(t, "armed", d.Sync(), api.ErrDown)
	d.Arm(1)
	d.Crash(nil)
	for range 3 {
		need(t, "not down", d.Sync(), api.OK)
		need(t, "not down", d.Write(0, full(1, 96)), api.OK)
	}
	state(t, "behind it", d, false, 1, 8)
	d.Crash([]int{96})
	d.Crash(nil)
	reads(t, "done in the first crash", d, 0, full(1, 96))
}

// P4.2: fates, modulo the size and 1, from 0 to the size.
func TestFates(t *testing.T) {
	for _, size := range []int{96, 100, 512} {
		for _, x := range []struct{ fate, done int }{
			{0, 0}, {1, 1}, {3, 3}, {size - 1, size - 1}, {size, size}, {size + 1, 0}, {size + 2, 1},
			{2*size + 1, size}, {5*(size+1) + 17, 17}, {-1, size}, {-2, size - 1}, {-size, 1}, {-size - 1, 0}, {-size - 2, size},
		} {
			d := New(1, size)
			need(t, "write", d.Write(0, full(4, size)), api.OK)
			need(t, "sync", d.Sync(), api.OK)
			need(t, "write", d.Write(0, full(1, size)), api.OK)
			d.Crash([]int{x.fate})
			reads(t, "torn", d, 0, over(full(1, size), x.done, full(4, size)))
		}
	}
	for _, x := range []struct{ fate, done int }{
		{math.MaxInt, math.MaxInt % 97}, {math.MinInt, 97 + math.MinInt%97},
	} {
		d := New(1, 96)
		need(t, "write", d.Write(0, full(1, 96)), api.OK)
		d.Crash([]int{x.fate})
		reads(t, "the farthest fates", d, 0, over(full(1, 96), x.done, full(0, 96)))
	}
}

// P4.2: each loose write has its own fate, in order, whichever sectors they go
// to; fates that are missing are 0, others are left over.
func TestFatesInOrder(t *testing.T) {
	d := New(3, 96)
	for i, at := range []int{2, 0, 2, 1, 0} {
		need(t, "write", d.Write(at, full(byte(i+1), 96)), api.OK)
	}
	d.Crash([]int{50, 60, 10, 96})
	reads(t, "the second", d, 0, over(full(2, 96), 60, full(0, 96)))
	reads(t, "the fourth", d, 1, full(4, 96))
	reads(t, "the first and the third", d, 2, over(full(3, 96), 10, over(full(1, 96), 50, full(0, 96))))
	state(t, "behind it", d, false, 0, 5)
	d.Crash([]int{96, 96, 96})
	reads(t, "without loose writes", d, 0, over(full(2, 96), 60, full(0, 96)))
	need(t, "write", d.Write(1, full(7, 96)), api.OK)
	d.Crash([]int{2, 96, 96, 96})
	reads(t, "fates left over", d, 1, over(full(7, 96), 2, full(4, 96)))
}

// P4.2: the document's examples.
func TestExamples(t *testing.T) {
	d := New(1, 96)
	need(t, "write", d.Write(0, full(1, 96)), api.OK)
	d.Crash(nil)
	reads(t, "without fates", d, 0, full(0, 96))
	need(t, "write", d.Write(0, full(1, 96)), api.OK)
	d.Crash([]int{3})
	reads(t, "of the fate 3", d, 0, over(full(1, 96), 3, full(0, 96)))

	d = New(1, 96)
	need(t, "write", d.Write(0, full(1, 96)), api.OK)
	need(t, "write", d.Write(0, full(2, 96)), api.OK)
	d.Crash([]int{96, 5})
	reads(t, "of two fates", d, 0, over(full(2, 96), 5, full(1, 96)))

	d = New(1, 96)
	need(t, "write", d.Write(0, full(1, 96)), api.OK)
	need(t, "sync", d.Sync(), api.OK)
	need(t, "rot", d.Rot(0, 0, 255), api.OK)
	reads(t, "rotten", d, 0, over(full(254, 96), 1, full(1, 96)))
}

// P4.2: rot turns bits of what is fast, and nothing else; twice, it is undone.
func TestRot(t *testing.T) {
	d := New(3, 96)
	need(t, "write", d.Write(1, full(0x55, 96)), api.OK)
	need(t, "sync", d.Sync(), api.OK)
	need(t, "rot", d.Rot(1, 95, 0x0F), api.OK)
	want := full(0x55, 96)
	want[95] = 0x5A
	reads(t, "rot", d, 1, want)
	need(t, "rot of no bits", d.Rot(1, 3, 0), api.OK)
	reads(t, "rot of no bits", d, 1, want)
	need(t, "rot of 0", d.Rot(2, 0, 0x81), api.OK)
	reads(t, "rot of 0", d, 2, over(full(0x81, 96), 1, full(0, 96)))
	need(t, "rot back", d.Rot(2, 0, 0x81), api.OK)
	reads(t, "rot back", d, 2, full(0, 96))
	reads(t, "another sector", d, 0, full(0, 96))
	state(t, "rot", d, false, 0, 2)
	for at, past := range [][]byte{{0}, {0x55, 0}, {0}} {
		list := d.Past(at)
		if len(list) != len(past) {
			t.Fatalf("rot changes the past of %d: %x", at, list)
		}
		for i, c := range past {
			if !bytes.Equal(list[i], full(c, 96)) {
				t.Errorf("rot changes the past of %d: %x", at, list[i])
			}
		}
	}
}

// P4.2: rot below a loose write is seen where a crash leaves what was fast, and
// is gone behind a sync.
func TestRotBelowLooseWrites(t *testing.T) {
	for _, sync := range []bool{true, false} {
		d := New(1, 96)
		need(t, "write", d.Write(0, full(1, 96)), api.OK)
		need(t, "sync", d.Sync(), api.OK)
		need(t, "write", d.Write(0, full(2, 96)), api.OK)
		need(t, "rot", d.Rot(0, 1, 0x80), api.OK)
		need(t, "rot", d.Rot(0, 50, 0x80), api.OK)
		reads(t, "a loose write", d, 0, full(2, 96))
		state(t, "a loose write", d, false, 1, 3)
		want := full(2, 96)
		if sync {
			need(t, "sync", d.Sync(), api.OK)
		} else {
			d.Crash([]int{10})
			want = over(full(2, 96), 10, full(1, 96))
			want[50] = 0x81
		}
		reads(t, "behind it", d, 0, want)
	}
}

// P4.2: wrong sectors and bytes do not rot; a device that is down does.
func TestRotAtTheEdges(t *testing.T) {
	d := New(2, 97)
	for _, x := range [][2]int{
		{-1, 0}, {2, 0}, {0, -1}, {0, 97}, {1, 512}, {math.MinInt, 0}, {math.MaxInt, 0}, {0, math.MinInt}, {0, math.MaxInt}, {2, 97},
	} {
		need(t, "rot", d.Rot(x[0], x[1], 255), api.ErrRange)
	}
	reads(t, "wrong places", d, 0, full(0, 97))
	reads(t, "wrong places", d, 1, full(0, 97))
	d.Arm(1)
	need(t, "sync", d.Sync(), api.ErrDown)
	need(t, "rot while down", d.Rot(1, 96, 2), api.OK)
	need(t, "rot while down", d.Rot(1, 97, 2), api.ErrRange)
	need(t, "rot while down", d.Rot(2, 0, 2), api.ErrRange)
	state(t, "rot while down", d, true, 0, 1)
	d.Crash(nil)
	reads(t, "rot while down", d, 1, append(full(0, 96), 2))
}

// P4.2: the past has all that was ever given by a write, the newest first and 0
// last, whether it was lost, torn, or given twice; what a crash made is none.
func TestPast(t *testing.T) {
	d := New(2, 96)
	need(t, "write", d.Write(0, full(1, 96)), api.OK)
	d.Crash(nil)
	need(t, "write", d.Write(0, full(2, 96)), api.OK)
	d.Crash([]int{5})
	need(t, "write", d.Write(0, full(2, 96)), api.OK)
	need(t, "write", d.Write(1, full(8, 96)), api.OK)
	need(t, "write", d.Write(0, full(0, 96)), api.OK)
	need(t, "sync", d.Sync(), api.OK)
	d.Arm(1)
	need(t, "write", d.Write(0, full(3, 96)), api.ErrDown)
	need(t, "write while down", d.Write(0, full(4, 96)), api.ErrDown)
	for range 2 {
		var got []byte
		for _, b := range d.Past(0) {
			if !bytes.Equal(b, full(b[0], 96)) {
				t.Fatalf("the past has %x", b)
			}
			got = append(got, b[0])
		}
		if !bytes.Equal(got, []byte{3, 0, 2, 2, 1, 0}) {
			t.Errorf("the past is %v", got)
		}
		d.Crash(nil)
	}
	if p := d.Past(1); len(p) != 2 || p[0][95] != 8 || !bytes.Equal(p[1], full(0, 96)) {
		t.Errorf("the past of the other sector is %x", p)
	}
}

// P4.2: at first the past is 0; of a sector that there is not there is none.
func TestPastAtTheEdges(t *testing.T) {
	d := New(2, 96)
	for at := range 2 {
		if p := d.Past(at); len(p) != 1 || !bytes.Equal(p[0], full(0, 96)) {
			t.Errorf("the past of %d is %x", at, p)
		}
	}
	for _, at := range []int{-1, 2, math.MinInt, math.MaxInt} {
		if p := d.Past(at); len(p) != 0 {
			t.Errorf("the past of %d is %x", at, p)
		}
	}
}

// P4.2: a copy is like the device, whatever that is just about, and neither has
// to do with the other one.
func TestCopy(t *testing.T) {
	d := New(2, 96)
	need(t, "write", d.Write(0, full(1, 96)), api.OK)
	need(t, "sync", d.Sync(), api.OK)
	need(t, "write", d.Write(0, full(2, 96)), api.OK)
	need(t, "write", d.Write(1, full(3, 96)), api.OK)
	d.Arm(2)
	c, same := d.Copy(), d.Copy()
	if c.Sectors() != 2 || c.Size() != 96 {
		t.Fatal("a copy has another size")
	}
	state(t, "a copy", c, false, 2, 4)
	need(t, "write", c.Write(1, full(4, 96)), api.OK)
	need(t, "sync", c.Sync(), api.ErrDown)
	need(t, "rot", c.Rot(0, 0, 255), api.OK)
	c.Crash([]int{96, 96, 96})
	reads(t, "the copy", c, 0, full(2, 96))
	reads(t, "the copy", c, 1, full(4, 96))
	for _, x := range []*Device{d, same} {
		state(t, "the device", x, false, 2, 4)
		reads(t, "the device", x, 0, full(2, 96))
		reads(t, "the device", x, 1, full(3, 96))
		if len(x.Past(1)) != 2 || len(c.Past(1)) != 3 {
			t.Error("a copy and its device have one past")
		}
		x.Crash([]int{5})
		reads(t, "the device behind a crash", x, 0, over(full(2, 96), 5, full(1, 96)))
		need(t, "write", x.Write(1, full(9, 96)), api.OK)
	}
	reads(t, "the copy at the end", c, 1, full(4, 96))
	if c.Loose() != 0 || c.Past(1)[0][0] != 4 || same.Past(1)[0][0] != 9 {
		t.Error("a copy has what its device was given")
	}
}

// P4.2: a copy of a device that is down is down, too.
func TestCopyWhileDown(t *testing.T) {
	d := New(1, 96)
	d.Arm(1)
	need(t, "write", d.Write(0, full(1, 96)), api.ErrDown)
	c := d.Copy()
	d.Crash(nil)
	state(t, "the copy", c, true, 1, 1)
	c.Crash([]int{96})
	reads(t, "the copy", c, 0, full(1, 96))
	reads(t, "the device", d, 0, full(0, 96))
}

// P4.2: of nil.
func TestNil(t *testing.T) {
	var d *Device
	b, e := d.Read(0)
	if b != nil || d.Sectors() != 0 || d.Size() != 0 || len(d.Past(0)) != 0 || d.Copy() != nil {
		t.Error("nil has something")
	}
	need(t, "read", e, api.ErrArg)
	need(t, "write", d.Write(0, full(1, 96)), api.ErrArg)
	need(t, "sync", d.Sync(), api.ErrArg)
	need(t, "rot", d.Rot(0, 0, 1), api.ErrArg)
	d.Arm(1)
	d.Crash([]int{1})
	state(t, "nil", d, false, 0, 0)
}

// R4: what is handed in is neither changed nor kept, nor what lies behind its
// end.
func TestHandedInIsNotKept(t *testing.T) {
	d := New(1, 96)
	room := full(1, 200)
	need(t, "write", d.Write(0, room[:96]), api.OK)
	fates := []int{40, 7, 7}
	clear(room)
	reads(t, "loose", d, 0, full(1, 96))
	if p := d.Past(0); !bytes.Equal(p[0], full(1, 96)) {
		t.Error("the past is another one")
	}
	d.Crash(fates[:1])
	need(t, "rot", d.Rot(0, 0, 2), api.OK)
	if !slices.Equal(fates, []int{40, 7, 7}) || !bytes.Equal(room, make([]byte, 200)) {
		t.Error("what was handed in is another one")
	}
	reads(t, "fast", d, 0, append([]byte{3}, over(full(1, 95), 39, full(0, 95))...))
}

// R4: what is handed out shares no memory with what is kept.
func TestHandedOutIsNew(t *testing.T) {
	d := New(1, 96)
	spoil := func() {
		b, _ := d.Read(0)
		clear(b)
		for _, p := range d.Past(0) {
			copy(p, full(77, 96))
			_ = append(p, 77)
		}
	}
	spoil()
	reads(t, "0", d, 0, full(0, 96))
	need(t, "write", d.Write(0, full(1, 96)), api.OK)
	spoil()
	reads(t, "loose", d, 0, full(1, 96))
	need(t, "sync", d.Sync(), api.OK)
	spoil()
	reads(t, "fast", d, 0, full(1, 96))
	if p := d.Past(0); len(p) != 2 || !bytes.Equal(p[0], full(1, 96)) || !bytes.Equal(p[1], full(0, 96)) {
		t.Errorf("the past is %x", p)
	}
}

// P4.3: what is fast is never lost by a crash, wherever a device goes down and
// whatever the fates are, unless it was written over since.
func TestFastIsNeverLost(t *testing.T) {
	for down := 1; down <= 9; down++ {
		for fate := range 97 {
			d := New(4, 96)
			for at := range 3 {
				need(t, "write", d.Write(at, full(byte(10+at), 96)), api.OK)
			}
			need(t, "sync", d.Sync(), api.OK)
			d.Arm(down)
			for i := range 9 {
				d.Write(2+i%2, full(byte(20+i), 96))
			}
			fates := make([]int, 9)
			for i := range fates {
				fates[i] = fate * (i + 1)
			}
			d.Crash(fates)
			reads(t, "not written over", d, 0, full(10, 96))
			reads(t, "not written over", d, 1, full(11, 96))
			need(t, "sync", d.Sync(), api.OK)
			b, _ := d.Read(3)
			d.Crash(fates)
			reads(t, "another crash", d, 3, b)
		}
	}
}

// P4.3: behind a crash a sector has, from the front on, pieces of its loose
// writes, the last ones first, upon what was fast.
func TestPiecesFromTheFront(t *testing.T) {
	for seed := range 300 {
		d := New(1, 96)
		need(t, "write", d.Write(0, full(1, 96)), api.OK)
		need(t, "sync", d.Sync(), api.OK)
		var fates []int
		for i := range 6 {
			need(t, "write", d.Write(0, full(byte(2+i), 96)), api.OK)
			fates = append(fates, (seed*31+i*i*17+i*seed)%97)
		}
		d.Crash(fates)
		b, _ := d.Read(0)
		if !slices.IsSortedFunc(b, func(x, y byte) int { return int(y) - int(x) }) {
			t.Fatalf("fates %v: the sector is %v", fates, b)
		}
		for i, fate := range fates {
			if fate > 0 && b[fate-1] < byte(2+i) || fate < 96 && b[fate] == byte(2+i) {
				t.Fatalf("fates %v: the sector is %v", fates, b)
			}
		}
	}
}

// slow is a device as the document words it, without a map, and with nothing
// shared.
type slow struct {
	fast      [][]byte
	given     []write // all writes that there ever were
	from      int     // which of them on are loose
	armed     int
	acts      int
	down      bool
	lastErrno api.Errno
}

// act counts what is a write or a sync.
func (s *slow) act() {
	s.acts++
	s.lastErrno = api.OK
	if s.armed > 0 {
		s.armed--
		s.down = s.armed == 0
	}
	if s.down {
		s.lastErrno = api.ErrDown
	}
}

// crash does what a crash does with fates; a sync is one that does all.
func (s *slow) crash(fates []int) {
	for i, w := range s.given[s.from:] {
		done := 0
		if i < len(fates) {
			done = fates[i] % (len(w.bytes) + 1)
		}
		for j := range done {
			s.fast[w.at][j] = w.bytes[j]
		}
	}
	s.from = len(s.given)
}

// reads tells what a sector reads.
func (s *slow) reads(at int) []byte {
	b := s.fast[at]
	for _, w := range s.given[s.from:] {
		if w.at == at {
			b = w.bytes
		}
	}
	return b
}

// do does one of the things that can be done, in both devices.
func (s *slow) do(d *Device, next func(below int) int) api.Errno {
	s.lastErrno = api.OK
	switch next(12) {
	case 0:
		fates := make([]int, next(8))
		for i := range fates {
			fates[i] = next(300)
		}
		s.crash(fates)
		s.down, s.armed = false, 0
		d.Crash(fates)
		return api.OK
	case 1:
		s.armed = next(9)
		d.Arm(s.armed)
		return api.OK
	case 2, 3:
		at, byteAt, mask := next(len(s.fast)), next(d.Size()), byte(next(256))
		s.fast[at][byteAt] ^= mask
		return d.Rot(at, byteAt, mask)
	case 4, 5:
		if s.down {
			s.lastErrno = api.ErrDown
		} else if s.act(); !s.down {
			s.crash(slices.Repeat([]int{d.Size()}, len(s.given)-s.from))
		}
		return d.Sync()
	}
	at, b := next(len(s.fast)), full(byte(next(4)), d.Size())
	if s.down {
		s.lastErrno = api.ErrDown
	} else {
		s.given = append(s.given, write{spot{at}, b})
		s.act()
	}
	return d.Write(at, b)
}

// like holds a device to the slow one.
func (s *slow) like(t *testing.T, d *Device) {
	t.Helper()
	state(t, "as worded", d, s.down, len(s.given)-s.from, s.acts)
	for at := range s.fast {
		b, e := d.Read(at)
		if s.down {
			if e != api.ErrDown || b != nil {
				t.Fatalf("down the sector %d reads %x, error %d", at, b, e)
			}
		} else if e != api.OK || !bytes.Equal(b, s.reads(at)) {
			t.Fatalf("the sector %d reads %x, error %d, want %x", at, b, e, s.reads(at))
		}
		want := [][]byte{make([]byte, d.Size())}
		for _, w := range s.given {
			if w.at == at {
				want = append(want, w.bytes)
			}
		}
		slices.Reverse(want)
		if !slices.EqualFunc(d.Past(at), want, bytes.Equal) {
			t.Fatalf("the past of %d is %x, want %x", at, d.Past(at), want)
		}
	}
}

// P4.1, P4.2: whatever is done, one thing behind the other, a device and its
// copies are as the document words them.
func TestAsWorded(t *testing.T) {
	for seed := range uint64(150) {
		n := seed
		next := func(below int) int {
			n = n*6364136223846793005 + 1442695040888963407
			return int((n >> 33) % uint64(below))
		}
		size := 96 + next(10)
		d := New(3, size)
		s := &slow{fast: [][]byte{make([]byte, size), make([]byte, size), make([]byte, size)}}
		for step := range 60 {
			e := s.do(d, next)
			need(t, "as worded", e, s.lastErrno)
			s.like(t, d)
			if step%7 == 0 {
				other := d
				d = d.Copy()
				other.Crash([]int{size, size})
				other.Rot(0, 0, 255)
				other.Write(1, full(99, size))
			}
		}
	}
}

// P4.1: sectors that are 0 stand in no map, however they became it.
func TestZeroStandsNowhere(t *testing.T) {
	d := New(2, 96)
	need(t, "write", d.Write(0, full(0, 96)), api.OK)
	need(t, "sync", d.Sync(), api.OK)
	need(t, "write", d.Write(1, full(1, 96)), api.OK)
	d.Crash(nil)
	need(t, "rot", d.Rot(0, 0, 1), api.OK)
	need(t, "rot", d.Rot(0, 0, 1), api.OK)
	need(t, "write", d.Write(1, full(1, 96)), api.OK)
	need(t, "sync", d.Sync(), api.OK)
	need(t, "write", d.Write(1, full(0, 96)), api.OK)
	d.Crash([]int{96})
	if len(d.fast) != 0 {
		t.Errorf("%d sectors stand in the map", len(d.fast))
	}
}

// R1: a great device with many loose writes is done with soon.
func TestManyWrites(t *testing.T) {
	d := New(api.MaxSectors, api.MaxSector)
	for i := range 4 * api.MaxSectors {
		need(t, "write", d.Write(i%api.MaxSectors, full(byte(i), api.MaxSector)), api.OK)
		reads(t, "loose", d, i%api.MaxSectors, full(byte(i), api.MaxSector))
	}
	d.Crash(nil)
	reads(t, "lost", d, api.MaxSectors-1, full(0, api.MaxSector))
	state(t, "lost", d, false, 0, 4*api.MaxSectors)
}
