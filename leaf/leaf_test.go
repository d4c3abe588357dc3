package leaf

import (
	"bytes"
	"math"
	"slices"
	"testing"

	"sgraffito/api"
	"sgraffito/flash"
)

// sizes are those of sectors that are tried.
var sizes = []int{96, 97, 128, 300, 511, 512}

// wrongSizes are some that no sector has.
var wrongSizes = []int{math.MinInt, -512, -96, -1, 0, 1, 18, 19, 20, 95, 513, 514, 1 << 14, math.MaxInt}

// worded tells the sector of a leaf, as the document words it.
func worded(size int, x Leaf) []byte {
	b := []byte{byte(x.Kind)}
	b = append(b, lowest(len(x.Load), 2)...)
	b = append(b, lowest(x.Place, 4)...)
	b = append(b, lowest(x.Stamp, 8)...)
	b = append(b, x.Load...)
	b = append(b, make([]byte, size-4-len(b))...)
	return checked(append(b, 0, 0, 0, 0))
}

// lowest tells a number of so many bytes, the lowest first.
func lowest(n, width int) []byte {
	var b []byte
	for range width {
		b = append(b, byte(n%256))
		n /= 256
	}
	return b
}

// checked tells a sector with the check of its bytes at its end, right or not
// besides.
func checked(sector []byte) []byte {
	b := slices.Clone(sector[:len(sector)-4])
	n := uint32(math.MaxUint32)
	for _, x := range b {
		n ^= uint32(x)
		for range 8 {
			if n%2 == 1 {
				n = n/2 ^ 0x82F63B78
			} else {
				n /= 2
			}
		}
	}
	return append(b, lowest(int(^n), 4)...)
}

// some tells so many bytes that differ from one another, from a seed on.
func some(seed, length int) []byte {
	b := make([]byte, length)
	n := uint32(seed)*7919 + 17
	for i := range b {
		n = n*1664525 + 1013904223
		b[i] = byte(n >> 24)
	}
	return b
}

// leaves tells leaves at all edges of what may be, for a size.
func leaves(size int) []Leaf {
	room := size - 19
	var list []Leaf
	for kind := 1; kind <= 4; kind++ {
		for i, place := range []int{0, 1, 255, 256, 65536, 0x01020304, 1 << 30, 1<<31 - 1} {
			for j, stamp := range []int{0, 1, 256, 1 << 32, 0x0102030405060708, 1 << 62, math.MaxInt64} {
				length := []int{0, 1, 2, 40, room - 1, room}[(i+j+kind)%6]
				list = append(list, Leaf{kind, place, stamp, some(i+8*j, length)})
			}
		}
	}
	return list
}

// same tells whether two leaves are the same.
func same(x, y Leaf) bool {
	return x.Kind == y.Kind && x.Place == y.Place && x.Stamp == y.Stamp && bytes.Equal(x.Load, y.Load)
}

// none tells whether a leaf is the zero value.
func none(x Leaf) bool { return same(x, Leaf{}) }

// need fails the test at once, if an error is another one.
func need(t *testing.T, name string, got, want api.Errno) {
	t.Helper()
	if got != want {
		t.Fatalf("%s: error %d, want %d", name, got, want)
	}
}

// build tells the sector of a leaf that may be.
func build(t *testing.T, size int, x Leaf) []byte {
	t.Helper()
	b, e := Build(size, x)
	need(t, "build", e, api.OK)
	return b
}

// P5.1: a load's room is the size less 19, and 0 of what is no size.
func TestRoom(t *testing.T) {
	for size := -600; size <= 1200; size++ {
		want := 0
		if size >= 96 && size <= 512 {
			want = size - 19
		}
		if got := Room(size); got != want {
			t.Errorf("Room(%d) is %d, want %d", size, got, want)
		}
	}
	for _, size := range wrongSizes {
		if got := Room(size); got != 0 {
			t.Errorf("Room(%d) is %d", size, got)
		}
	}
}

// P5.1: the document's example.
func TestExample(t *testing.T) {
	b := build(t, 96, Leaf{2, 5, 7, []byte("hi")})
	want := append([]byte{2, 2, 0, 5, 0, 0, 0, 7, 0, 0, 0, 0, 0, 0, 0, 'h', 'i'}, make([]byte, 75)...)
	if len(b) != 96 || !bytes.Equal(b[:92], want) {
		t.Errorf("the sector is %x", b)
	}
}

// P5.1: a leaf's sector has the bytes that the document words.
func TestBuild(t *testing.T) {
	for _, size := range sizes {
		for _, x := range leaves(size) {
			if got, want := build(t, size, x), worded(size, x); !bytes.Equal(got, want) {
				t.Fatalf("of %d %v: %x, want %x", size, x, got, want)
			}
		}
	}
}

// P5.1: loads of all lengths, up to the room, none nil or of length 0.
func TestBuildLoads(t *testing.T) {
	for _, size := range sizes {
		for length := range Room(size) + 1 {
			x := Leaf{4, length, 3, some(length, length)}
			if got, want := build(t, size, x), worded(size, x); !bytes.Equal(got, want) {
				t.Fatalf("of %d, a load of %d: %x, want %x", size, length, got, want)
			}
		}
		empty, without := build(t, size, Leaf{1, 1, 1, []byte{}}), build(t, size, Leaf{1, 1, 1, nil})
		if !bytes.Equal(empty, without) {
			t.Errorf("of %d: a load of length 0 is not that of none", size)
		}
	}
}

// P5.1: what may not be built, and of several errors the first.
func TestBuildWrong(t *testing.T) {
	try := func(size int, x Leaf, want api.Errno) {
		t.Helper()
		b, e := Build(size, x)
		if e != want || b != nil {
			t.Errorf("of %d, kind %d, place %d, stamp %d, a load of %d: %x, error %d, want %d", size, x.Kind, x.Place, x.Stamp, len(x.Load), b, e, want)
		}
	}
	wrong := []Leaf{
		{0, 1, 1, nil}, {5, 1, 1, nil}, {-1, 1, 1, nil}, {257, 1, 1, nil}, {258, 1, 1, nil}, {math.MinInt, 1, 1, nil}, {math.MaxInt, 1, 1, nil},
		{1, -1, 1, nil}, {2, 1 << 31, 1, nil}, {3, 1<<32 + 1, 1, nil}, {4, math.MinInt, 1, nil}, {1, math.MaxInt, 1, nil},
		{1, 1, -1, nil}, {2, 1, math.MinInt, nil}, {0, -1, -1, nil},
	}
	for _, size := range wrongSizes {
		try(size, Leaf{1, 1, 1, nil}, api.ErrSize)
		try(size, Leaf{1, 1, 1, make([]byte, 1000)}, api.ErrSize)
		for _, x := range wrong {
			try(size, x, api.ErrSize)
		}
	}
	for _, size := range sizes {
		for _, x := range wrong {
			try(size, x, api.ErrArg)
			x.Load = make([]byte, size-18)
			try(size, x, api.ErrArg)
		}
		for _, length := range []int{size - 18, size - 17, size - 4, size, 512, 1 << 16, 1<<16 + 1} {
			if length > size-19 {
				try(size, Leaf{1, 1, 1, make([]byte, length)}, api.ErrLong)
			}
		}
	}
}

// P5.1, P5.3: a leaf is read as it was built.
func TestReadAsBuilt(t *testing.T) {
	for _, size := range sizes {
		for _, x := range leaves(size) {
			y, e := Read(build(t, size, x))
			if e != api.OK || !same(x, y) {
				t.Fatalf("of %d: %v is read as %v, error %d", size, x, y, e)
			}
		}
		for length := range Room(size) + 1 {
			x := Leaf{3, 1<<31 - 1, math.MaxInt64, make([]byte, length)}
			if y, e := Read(build(t, size, x)); e != api.OK || !same(x, y) {
				t.Fatalf("of %d: a load of %d is read as %v, error %d", size, length, y, e)
			}
		}
	}
}

// P5.1: what has not the size of a sector.
func TestReadWrongSize(t *testing.T) {
	whole := build(t, 512, Leaf{1, 1, 1, []byte("hen")})
	for length := range 1200 {
		if length >= 96 && length <= 512 {
			continue
		}
		b := make([]byte, length)
		copy(b, whole)
		if x, e := Read(b); e != api.ErrSize || !none(x) {
			t.Errorf("of %d bytes: %v, error %d", length, x, e)
		}
	}
	if x, e := Read(nil); e != api.ErrSize || !none(x) {
		t.Errorf("of nil: %v, error %d", x, e)
	}
}

// noLeaf holds a sector to being none of a leaf.
func noLeaf(t *testing.T, name string, sector []byte) {
	t.Helper()
	if x, e := Read(sector); e != api.ErrForm || !none(x) {
		t.Errorf("%s: is read as %v, error %d", name, x, e)
	}
}

// P5.1: a sector's size is not told by its bytes: with some at its end more or
// less it is none.
func TestReadCutSector(t *testing.T) {
	x := Leaf{1, 2, 3, some(1, 60)}
	for size := 97; size <= 511; size++ {
		b := build(t, size, x)
		noLeaf(t, "cut", b[:size-1])
		noLeaf(t, "with 0 behind it", append(slices.Clone(b), 0))
	}
}

// P5.1: each bit of a sector counts.
func TestReadTurnedBits(t *testing.T) {
	for _, x := range []Leaf{{1, 0, 0, nil}, {2, 5, 7, []byte("hi")}, {4, 1<<31 - 1, math.MaxInt64, some(3, 77)}} {
		b := build(t, 96, x)
		for i := range len(b) * 8 {
			b[i/8] ^= 1 << (i % 8)
			noLeaf(t, "a turned bit", b)
			b[i/8] ^= 1 << (i % 8)
		}
	}
}

// P5.1: with a right check, too, a sector is none of a leaf, if something else
// in it may not be.
func TestReadWrongButChecked(t *testing.T) {
	x := Leaf{2, 5, 7, some(9, 20)}
	for _, size := range sizes {
		at := func(i int, bytes ...byte) []byte {
			b := worded(size, x)
			copy(b[i:], bytes)
			return checked(b)
		}
		for kind := range 256 {
			if kind < 1 || kind > 4 {
				noLeaf(t, "a wrong kind", at(0, byte(kind)))
			}
		}
		for length := size - 18; length < 1<<16; length = min(length+1+length/64, length+100) {
			noLeaf(t, "too long a load", at(1, byte(length), byte(length>>8)))
		}
		noLeaf(t, "too long a load", at(1, 255, 255))
		for length := range 20 {
			noLeaf(t, "a load that ends ahead of its bytes", at(1, byte(length), 0))
		}
		noLeaf(t, "too great a place", at(6, 128))
		noLeaf(t, "too great a place", at(3, 255, 255, 255, 255))
		noLeaf(t, "too great a stamp", at(14, 128))
		noLeaf(t, "too great a stamp", at(7, 255, 255, 255, 255, 255, 255, 255, 255))
		for i := 35; i < size-4; i++ {
			noLeaf(t, "not 0 behind the load", at(i, 1))
		}
		noLeaf(t, "all 0 but the check", checked(make([]byte, size)))
		noLeaf(t, "all 0", make([]byte, size))
		noLeaf(t, "all ones", bytes.Repeat([]byte{255}, size))
		if y, e := Read(at(0, 2)); e != api.OK || !same(x, y) {
			t.Errorf("of %d: with nothing wrong it is read as %v, error %d", size, y, e)
		}
	}
}

// P5.1: the check stands with its lowest byte first, and is that of all bytes
// ahead of it.
func TestReadWrongCheck(t *testing.T) {
	b := build(t, 96, Leaf{2, 5, 7, []byte("hi")})
	c := slices.Clone(b)
	slices.Reverse(c[92:])
	noLeaf(t, "the check the other way round", c)
	noLeaf(t, "no check", append(slices.Clone(b[:92]), 0, 0, 0, 0))
	for i := range 4 {
		c := slices.Clone(b)
		c[92+i] = ^c[92+i]
		noLeaf(t, "a byte of the check turned", c)
	}
}

// P5.3: two leaves that differ only in their kinds are never one another's
// sector: neither the bytes nor the checks go together.
func TestKindsApart(t *testing.T) {
	for _, size := range sizes {
		for _, x := range leaves(size) {
			b := build(t, size, x)
			for kind := 1; kind <= 4; kind++ {
				if kind == x.Kind {
					continue
				}
				y := x
				y.Kind = kind
				c := build(t, size, y)
				if bytes.Equal(b, c) || bytes.Equal(b[size-4:], c[size-4:]) {
					t.Fatalf("kinds %d and %d of %v go together", x.Kind, kind, x)
				}
				c = slices.Clone(b)
				c[0] = byte(kind)
				noLeaf(t, "of another kind", c)
			}
		}
	}
}

// P5.3: and so do two that differ only in their places.
func TestPlacesApart(t *testing.T) {
	places := []int{0, 1, 2, 3, 255, 256, 257, 65535, 65536, 1 << 24, 0x01020304, 0x04030201, 1 << 30, 1<<31 - 1}
	for i := range 31 {
		places = append(places, 1<<i, 1<<31-1-1<<i)
	}
	for _, size := range []int{96, 301, 512} {
		for kind := 1; kind <= 4; kind++ {
			x := Leaf{Kind: kind, Stamp: 11, Load: some(kind, 30)}
			for _, place := range places {
				x.Place = place
				b := build(t, size, x)
				for _, other := range places {
					if other == place {
						continue
					}
					y := x
					y.Place = other
					c := build(t, size, y)
					if bytes.Equal(b, c) || bytes.Equal(b[size-4:], c[size-4:]) {
						t.Fatalf("places %d and %d go together", place, other)
					}
					c = slices.Clone(b)
					copy(c[3:], lowest(other, 4))
					noLeaf(t, "of another place", c)
				}
			}
		}
	}
}

// R4: what is handed in is not changed and not kept, its spare room neither,
// and what is handed out is new.
func TestMemory(t *testing.T) {
	load := append(make([]byte, 0, 200), "hen"...)
	spare := load[:200]
	copy(spare[3:], some(1, 197))
	before := slices.Clone(spare)
	b, c := build(t, 96, Leaf{1, 2, 3, load}), build(t, 96, Leaf{1, 2, 3, load})
	b[15] = 'p'
	if !bytes.Equal(spare, before) || c[15] != 'h' {
		t.Error("Build changes what it was handed, or hands out what is another's")
	}
	sector := append(make([]byte, 0, 200), c...)
	behind := sector[:200]
	before = slices.Clone(behind)
	x, e := Read(sector)
	need(t, "read", e, api.OK)
	y, e := Read(sector)
	need(t, "read", e, api.OK)
	x.Load[0] = 'p'
	for i := range x.Load[:cap(x.Load)] {
		x.Load[:cap(x.Load)][i] = 'q'
	}
	if !bytes.Equal(behind, before) || string(y.Load) != "hen" {
		t.Error("Read hands out what is another's")
	}
	sector[15] = 'r'
	if string(y.Load) != "hen" {
		t.Error("Read hands out what it was handed")
	}
}

// P5.2: what is put stands in that sector alone, loose, and is got.
func TestPutAndGet(t *testing.T) {
	for _, size := range sizes {
		d := flash.New(4, size)
		for i, x := range leaves(size) {
			at := i % 4
			need(t, "put", Put(d, at, x), api.OK)
			b, e := d.Read(at)
			if e != api.OK || !bytes.Equal(b, worded(size, x)) || d.Loose() != i+1 || d.Acts() != i+1 {
				t.Fatalf("of %d: %v is put as %x, error %d, loose %d, acts %d", size, x, b, e, d.Loose(), d.Acts())
			}
			y, e := Get(d, at, x.Kind, x.Place)
			if e != api.OK || !same(x, y) {
				t.Fatalf("of %d: %v is got as %v, error %d", size, x, y, e)
			}
		}
	}
	d := flash.New(3, 96)
	need(t, "put", Put(d, 1, Leaf{1, 1, 1, nil}), api.OK)
	for _, at := range []int{0, 2} {
		if b, e := d.Read(at); e != api.OK || !bytes.Equal(b, make([]byte, 96)) {
			t.Errorf("the sector %d beside it has %x", at, b)
		}
	}
}

// P5.2: the errors of Put, the first of several; nothing is done then.
func TestPutWrong(t *testing.T) {
	long := make([]byte, 78)
	right := Leaf{2, 5, 7, []byte("hi")}
	for _, x := range []Leaf{right, {0, 0, 0, nil}, {1, 0, 0, long}} {
		need(t, "put to nil", Put(nil, 0, x), api.ErrArg)
	}
	d := flash.New(2, 96)
	need(t, "put", Put(d, 1, right), api.OK)
	before, _ := d.Read(1)
	for _, at := range []int{0, 1, 2, -1, math.MinInt, math.MaxInt} {
		for _, x := range []Leaf{{0, 5, 7, nil}, {5, 5, 7, nil}, {1, -1, 7, nil}, {1, 1 << 31, 7, nil}, {1, 5, -1, nil}, {0, 0, 0, long}} {
			need(t, "put of what may not be", Put(d, at, x), api.ErrArg)
		}
		need(t, "put of a load that is too long", Put(d, at, Leaf{1, 0, 0, long}), api.ErrLong)
	}
	for _, at := range []int{-1, 2, 3, math.MinInt, math.MaxInt} {
		need(t, "put to a sector that there is not", Put(d, at, right), api.ErrRange)
	}
	if b, e := d.Read(1); e != api.OK || !bytes.Equal(b, before) || d.Acts() != 1 || len(d.Past(0)) != 1 || len(d.Past(1)) != 2 {
		t.Error("what told an error did something")
	}
	d.Arm(1)
	need(t, "put while it goes down", Put(d, 0, right), api.ErrDown)
	need(t, "put to one that is down", Put(d, 0, right), api.ErrDown)
	need(t, "put to none of one that is down", Put(d, 9, right), api.ErrDown)
	need(t, "put of a wrong one to one that is down", Put(d, 0, Leaf{}), api.ErrArg)
	need(t, "put of a long one to one that is down", Put(d, 0, Leaf{1, 0, 0, long}), api.ErrLong)
	d.Crash([]int{96, 96})
	if x, e := Get(d, 0, 2, 5); e != api.OK || !same(x, right) {
		t.Errorf("the write at which it went down was not loose: %v, error %d", x, e)
	}
}

// P5.2: the errors of Get, the first of several.
func TestGetWrong(t *testing.T) {
	try := func(name string, d *flash.Device, at, kind, place int, want api.Errno) {
		t.Helper()
		if x, e := Get(d, at, kind, place); e != want || !none(x) {
			t.Errorf("%s: %v, error %d, want %d", name, x, e, want)
		}
	}
	d := flash.New(2, 96)
	need(t, "put", Put(d, 1, Leaf{2, 5, 7, []byte("hi")}), api.OK)
	for _, kind := range []int{0, 1, 3, 4, 5, -1, 258, math.MinInt, math.MaxInt} {
		try("of nil", nil, 1, kind, 5, api.ErrArg)
		try("another kind", d, 1, kind, 5, api.ErrForm)
		try("another kind and place", d, 1, kind, 6, api.ErrForm)
	}
	try("of nil", nil, 1, 2, 5, api.ErrArg)
	for _, place := range []int{0, 4, 6, -5, -1, 1<<32 + 5, math.MinInt, math.MaxInt} {
		try("of nil", nil, 1, 2, place, api.ErrArg)
		try("another place", d, 1, 2, place, api.ErrForm)
	}
	try("a sector of 0", d, 0, 2, 5, api.ErrForm)
	try("a sector of 0, and no leaf", d, 0, 0, 0, api.ErrForm)
	for _, at := range []int{-1, 2, math.MinInt, math.MaxInt} {
		try("a sector that there is not", d, at, 2, 5, api.ErrRange)
		try("a sector that there is not, and no leaf", d, at, 0, -1, api.ErrRange)
	}
	need(t, "sync", d.Sync(), api.OK)
	need(t, "rot", d.Rot(1, 50, 1), api.OK)
	try("rotten", d, 1, 2, 5, api.ErrForm)
	d.Arm(1)
	need(t, "sync", d.Sync(), api.ErrDown)
	for _, at := range []int{0, 1, 2, -1} {
		try("of one that is down", d, at, 2, 5, api.ErrDown)
	}
}

// fouls holds a device to the sectors that are foul.
func fouls(t *testing.T, name string, d *flash.Device, want ...int) {
	t.Helper()
	if got := Foul(d); !slices.Equal(got, want) {
		t.Errorf("%s: foul are %v, want %v", name, got, want)
	}
}

// rotInto turns bits of what is fast in a sector, till it is other bytes.
func rotInto(t *testing.T, d *flash.Device, at int, from, to []byte) {
	t.Helper()
	for i := range from {
		need(t, "rot", d.Rot(at, i, from[i]^to[i]), api.OK)
	}
}

// P5.2: nothing is foul of what was written, or is no leaf at all.
func TestNotFoul(t *testing.T) {
	fouls(t, "nil", nil)
	d := flash.New(5, 96)
	fouls(t, "a new device", d)
	need(t, "put", Put(d, 1, Leaf{1, 1, 1, []byte("hen")}), api.OK)
	need(t, "put", Put(d, 3, Leaf{4, 3, 1, []byte("owl")}), api.OK)
	need(t, "write", d.Write(2, some(1, 96)), api.OK)
	fouls(t, "loose leaves", d)
	need(t, "sync", d.Sync(), api.OK)
	fouls(t, "fast leaves", d)
	need(t, "put", Put(d, 1, Leaf{1, 1, 2, []byte("fox")}), api.OK)
	fouls(t, "a leaf upon another", d)
	d.Crash([]int{9})
	fouls(t, "a torn leaf", d)
	need(t, "rot", d.Rot(3, 40, 1), api.OK)
	need(t, "rot", d.Rot(0, 0, 1), api.OK)
	fouls(t, "rotten leaves", d)
	need(t, "write of a leaf's bytes", d.Write(4, worded(96, Leaf{3, 4, 5, nil})), api.OK)
	fouls(t, "bytes that are a leaf", d)
}

// P5.2: foul is what became another leaf by rot, in order, and only as long as
// it is read.
func TestFoulByRot(t *testing.T) {
	d := flash.New(6, 96)
	first, second := Leaf{1, 1, 1, []byte("hen")}, Leaf{2, 7, 9, []byte("white owl")}
	was, is := worded(96, first), worded(96, second)
	for at := range 5 {
		need(t, "put", Put(d, at, first), api.OK)
	}
	need(t, "sync", d.Sync(), api.OK)
	for _, at := range []int{4, 0, 3} {
		rotInto(t, d, at, was, is)
	}
	rotInto(t, d, 5, make([]byte, 96), is)
	fouls(t, "rotten into a leaf", d, 0, 3, 4, 5)
	fouls(t, "asked again", d, 0, 3, 4, 5)
	need(t, "put", Put(d, 3, first), api.OK)
	fouls(t, "written upon", d, 0, 4, 5)
	d.Crash([]int{0})
	fouls(t, "the write was not done", d, 0, 3, 4, 5)
	rotInto(t, d, 0, is, was)
	fouls(t, "rotten back", d, 3, 4, 5)
	need(t, "put", Put(d, 4, second), api.OK)
	fouls(t, "the same bytes written, loose", d, 3, 5)
	d.Crash(nil)
	fouls(t, "the same bytes written, not done", d, 3, 5)
	d.Arm(1)
	need(t, "sync", d.Sync(), api.ErrDown)
	fouls(t, "down", d)
	d.Crash(nil)
	fouls(t, "up again", d, 3, 5)
}

// P5.2: foul is also a leaf that differs a little from the one that was written.
func TestFoulByALittle(t *testing.T) {
	x := Leaf{2, 5, 7, some(4, 77)}
	last, short := slices.Clone(x.Load), slices.Clone(x.Load)
	last[76]++
	short[76] = 0
	x.Load = short
	for _, y := range []Leaf{{1, 5, 7, short}, {2, 4, 7, short}, {2, 5, 8, short}, {2, 5, 7, last}, {2, 5, 7, short[:76]}} {
		d := flash.New(1, 96)
		need(t, "put", Put(d, 0, x), api.OK)
		need(t, "sync", d.Sync(), api.OK)
		rotInto(t, d, 0, worded(96, x), worded(96, y))
		fouls(t, "another by a little", d, 0)
		rotInto(t, d, 0, worded(96, y), worded(96, x))
		fouls(t, "as it was", d)
	}
}

// P5.2: rot below a loose write is not read, and so is not foul, till a crash.
func TestFoulBelowALooseWrite(t *testing.T) {
	d := flash.New(2, 96)
	was, is := Leaf{1, 1, 1, []byte("hen")}, Leaf{1, 1, 2, []byte("fox")}
	need(t, "put", Put(d, 1, was), api.OK)
	need(t, "sync", d.Sync(), api.OK)
	need(t, "put", Put(d, 1, was), api.OK)
	rotInto(t, d, 1, worded(96, was), worded(96, is))
	fouls(t, "below a loose write", d)
	d.Crash(nil)
	fouls(t, "behind the crash", d, 1)
	need(t, "put of another", Put(d, 0, is), api.OK)
	fouls(t, "written elsewhere", d, 1)
}

// P5.2: what rots into a leaf that was once written there, long ago, is not
// foul, nor is it changed by all that was written since.
func TestOldLeafIsNotFoul(t *testing.T) {
	d := flash.New(1, 96)
	for stamp := range 40 {
		need(t, "put", Put(d, 0, Leaf{1, 0, stamp, nil}), api.OK)
	}
	need(t, "sync", d.Sync(), api.OK)
	last := worded(96, Leaf{1, 0, 39, nil})
	for stamp := range 42 {
		other := worded(96, Leaf{1, 0, stamp, nil})
		rotInto(t, d, 0, last, other)
		if stamp < 40 {
			fouls(t, "once written", d)
		} else {
			fouls(t, "never written", d, 0)
		}
		last = other
	}
}

// P5.2: a torn write is foul, if what it makes with what stood there is a leaf:
// here of the first bytes of the one load upon another, whose checks are the
// same.
func TestFoulByATornWrite(t *testing.T) {
	old := Leaf{3, 1, 4, some(1, 60)}
	torn := Leaf{3, 1, 4, slices.Clone(old.Load)}
	// Two rows of bytes that differ by the polynomial's 33 bits have one check.
	for i, x := range lowest(1+2*0x82F63B78, 5) {
		torn.Load[10+i] ^= x
	}
	later := Leaf{3, 1, 4, slices.Clone(torn.Load)}
	later.Load[40]++
	d := flash.New(2, 96)
	need(t, "put", Put(d, 1, old), api.OK)
	need(t, "sync", d.Sync(), api.OK)
	need(t, "put", Put(d, 1, later), api.OK)
	for fate := range 97 {
		c := d.Copy()
		c.Crash([]int{fate})
		if fate >= 15+15 && fate <= 15+40 {
			fouls(t, "torn into another leaf", c, 1)
			if x, e := Get(c, 1, 3, 1); e != api.OK || !same(x, torn) {
				t.Errorf("torn at %d it is %v, error %d", fate, x, e)
			}
		} else {
			fouls(t, "torn", c)
		}
	}
}

// P5.2: all sectors of a device are looked at, however many.
func TestFoulOfManySectors(t *testing.T) {
	d := flash.New(api.MaxSectors, 512)
	x := worded(512, Leaf{4, 9, 9, some(1, 493)})
	var want []int
	for at := 0; at < api.MaxSectors; at += 1023 {
		rotInto(t, d, at, make([]byte, 512), x)
		want = append(want, at)
	}
	last := api.MaxSectors - 1
	if !slices.Contains(want, last) {
		rotInto(t, d, last, make([]byte, 512), x)
		want = append(want, last)
	}
	fouls(t, "many sectors", d, want...)
}

// P5.2: that a device is asked for what is foul in it, or for a leaf, changes
// nothing of it.
func TestAskingChangesNothing(t *testing.T) {
	d := flash.New(3, 96)
	need(t, "put", Put(d, 0, Leaf{1, 0, 1, nil}), api.OK)
	need(t, "sync", d.Sync(), api.OK)
	need(t, "put", Put(d, 0, Leaf{1, 0, 2, nil}), api.OK)
	d.Arm(1)
	for range 3 {
		fouls(t, "asked", d)
		if x, e := Get(d, 0, 1, 0); e != api.OK || x.Stamp != 2 {
			t.Errorf("got %v, error %d", x, e)
		}
	}
	if d.Acts() != 3 || d.Loose() != 1 || d.Down() || len(d.Past(0)) != 3 {
		t.Error("asking changed the device")
	}
	need(t, "still armed", d.Sync(), api.ErrDown)
}
