package bucket

import (
	"bytes"
	"fmt"
	"math"
	"math/rand/v2"
	"reflect"
	"slices"
	"testing"

	"sgraffito/api"
	"sgraffito/leaf"
	"sgraffito/mix"
	"sgraffito/plan"
	"sgraffito/region"
)

// greatest is the greatest location that an entry may have.
var greatest = region.Loc{Region: 1 << 40, At: 65535, Size: 65535}

// entry tells an entry whose number has these highest 16 bits.
func entry(high int) Entry {
	return Entry{uint64(high)<<48 | uint64(high*7919), region.Loc{Region: high * 3, At: high % 500, Size: high % 77}}
}

// of tells a bucket of a depth and a prefix, with entries by these highest bits.
func of(depth, prefix int, highs ...int) Bucket {
	b := Bucket{Depth: depth, Prefix: prefix}
	for _, high := range highs {
		b.Entries = append(b.Entries, entry(high))
	}
	return b
}

// lowest tells a number of so many bytes, the lowest first.
func lowest(n uint64, width int) []byte {
	var b []byte
	for range width {
		b = append(b, byte(n))
		n /= 256
	}
	return b
}

// load tells a bucket's load, as the document words it.
func load(b Bucket) []byte {
	row := append([]byte{byte(b.Depth), byte(len(b.Entries))}, lowest(uint64(b.Prefix), 8)...)
	for _, x := range b.Entries {
		row = append(row, lowest(x.Hash, 8)...)
		row = append(row, lowest(uint64(x.Loc.Region), 8)...)
		row = append(row, lowest(uint64(x.Loc.At), 2)...)
		row = append(row, lowest(uint64(x.Loc.Size), 2)...)
	}
	return row
}

// worded tells whether it is a bucket, as the document words it.
func worded(b Bucket, slots int) bool {
	if slots < 1 || slots > 255 || b.Depth < 0 || b.Depth > 8 || len(b.Entries) > slots {
		return false
	}
	if b.Prefix < 0 || b.Prefix > 255>>(8-b.Depth) {
		return false
	}
	for i, x := range b.Entries {
		if b.Depth > 0 && int(x.Hash>>56)>>(8-b.Depth) != b.Prefix {
			return false
		}
		for _, y := range b.Entries[:i] {
			if y.Hash >= x.Hash {
				return false
			}
		}
		if x.Loc.Region < 0 || x.Loc.Region > 1<<40 || x.Loc.At < 0 || x.Loc.At > 65535 || x.Loc.Size < 0 || x.Loc.Size > 65535 {
			return false
		}
	}
	return true
}

// same tells whether two buckets are the same; no entries are the same as nil.
func same(x, y Bucket) bool {
	return x.Depth == y.Depth && x.Prefix == y.Prefix && slices.Equal(x.Entries, y.Entries)
}

// is holds a bucket to what it should be.
func is(t *testing.T, name string, got, want Bucket) {
	t.Helper()
	if !same(got, want) {
		t.Fatalf("%s: %v, want %v", name, got, want)
	}
}

// right holds a bucket, and its load, to being one, or none.
func right(t *testing.T, name string, b Bucket, slots int, want bool) {
	t.Helper()
	if worded(b, slots) != want {
		t.Fatalf("%s: the test is wrong: %v", name, b)
	}
	if got := Right(b, slots); got != want {
		t.Errorf("%s: Right is %t: %v, %d slots", name, got, b, slots)
	}
	row, e := Pack(b, slots)
	switch {
	case want && (e != api.OK || !bytes.Equal(row, load(b))):
		t.Errorf("%s: load %x, error %d, want %x", name, row, e, load(b))
	case !want && (e != api.ErrForm || row != nil):
		t.Errorf("%s: load %x, error %d", name, row, e)
	}
}

// unpacks holds a load to the bucket that is read of it.
func unpacks(t *testing.T, name string, row []byte, slots int, want Bucket) {
	t.Helper()
	if got, e := Unpack(row, slots); e != api.OK || !same(got, want) {
		t.Errorf("%s: %v, error %d, want %v", name, got, e, want)
	}
}

// noBucket holds a load to being none.
func noBucket(t *testing.T, name string, row []byte, slots int) {
	t.Helper()
	if got, e := Unpack(row, slots); e != api.ErrForm || !reflect.DeepEqual(got, Bucket{}) {
		t.Errorf("%s: %v, error %d", name, got, e)
	}
}

// P14.1: what is a bucket, and what is none: slots, depth, prefix, how many
// entries there are, their order, their locations.
func TestRight(t *testing.T) {
	two := of(1, 1, 0x8000, 0xffff)
	for _, slots := range []int{math.MinInt, -1, 0, 1, 2, 3, 254, 255, 256, 257, 1 << 16, math.MaxInt} {
		right(t, "none of many", Bucket{}, slots, slots >= 1 && slots <= 255)
		right(t, "one of many", of(0, 0, 7), slots, slots >= 1 && slots <= 255)
		right(t, "two of many", two, slots, slots >= 2 && slots <= 255)
	}
	many := Bucket{}
	for i := range 257 {
		many.Entries = append(many.Entries, entry(i*200))
	}
	for _, n := range []int{253, 254, 255, 256, 257} {
		right(t, "many", Bucket{Entries: many.Entries[:n]}, 255, n <= 255)
		right(t, "many", Bucket{Entries: many.Entries[:n]}, 254, n <= 254)
	}
	for depth := range 9 {
		for _, prefix := range []int{0, 1, 1<<depth - 2, 1<<depth - 1} {
			right(t, "depth, prefix", Bucket{Depth: depth, Prefix: prefix}, 3, prefix >= 0 && prefix < 1<<depth)
		}
		for _, prefix := range []int{math.MinInt, -1 << 32, -256, -1, 1 << depth, 1<<depth + 1, 256, 1 << 32, math.MaxInt} {
			right(t, "prefix", Bucket{Depth: depth, Prefix: prefix}, 3, false)
		}
	}
	for _, depth := range []int{math.MinInt, -64, -1, 9, 10, 63, 64, 255, 256, math.MaxInt} {
		right(t, "depth", Bucket{Depth: depth}, 3, false)
		right(t, "depth", of(depth, 0, 0), 3, false)
	}
}

// P14.1: each entry's number begins with the prefix; the least is the first, and
// none stands twice.
func TestRightEntries(t *testing.T) {
	for depth := range 9 {
		for prefix := range 1 << depth {
			first, last := uint64(prefix)<<(64-depth), uint64(prefix+1)<<(64-depth)-1
			if depth == 0 {
				first, last = 0, math.MaxUint64
			}
			right(t, "first", Bucket{depth, prefix, []Entry{{Hash: first}}}, 2, true)
			right(t, "last", Bucket{depth, prefix, []Entry{{Hash: last}}}, 2, true)
			right(t, "both", Bucket{depth, prefix, []Entry{{Hash: first}, {Hash: last}}}, 2, true)
			right(t, "turned", Bucket{depth, prefix, []Entry{{Hash: last}, {Hash: first}}}, 2, false)
			if prefix > 0 {
				right(t, "ahead of the first", Bucket{depth, prefix, []Entry{{Hash: first - 1}}}, 2, false)
				right(t, "ahead of the first", Bucket{depth, prefix, []Entry{{Hash: first - 1}, {Hash: last}}}, 2, false)
			}
			if prefix+1 < 1<<depth {
				right(t, "behind the last", Bucket{depth, prefix, []Entry{{Hash: last + 1}}}, 2, false)
				right(t, "behind the last", Bucket{depth, prefix, []Entry{{Hash: first}, {Hash: last + 1}}}, 2, false)
			}
		}
	}
	for _, x := range []struct {
		highs []int
		want  bool
	}{
		{[]int{1, 2, 3}, true},
		{[]int{1, 3, 2}, false},
		{[]int{2, 1, 3}, false},
		{[]int{1, 1, 3}, false},
		{[]int{1, 3, 3}, false},
		{[]int{1, 3, 1}, false},
		{[]int{1, 1}, false},
	} {
		right(t, fmt.Sprint(x.highs), of(0, 0, x.highs...), 5, x.want)
	}
	right(t, "one number, two locations", Bucket{Entries: []Entry{{1, region.Loc{}}, {1, greatest}}}, 5, false)
}

// P14.1: an entry's region is from 0 to 2^40, its place and size from 0 to 65535.
func TestRightLocations(t *testing.T) {
	for _, n := range []int{math.MinInt, -1 << 40, -1, 0, 1, 65535, 65536, 1<<40 - 1, 1 << 40, 1<<40 + 1, math.MaxInt} {
		short := n >= 0 && n <= 65535
		for at := range 3 {
			for loc, want := range map[region.Loc]bool{
				{Region: n}:                     n >= 0 && n <= 1<<40,
				{At: n}:                         short,
				{Size: n}:                       short,
				{Region: n, At: 65535, Size: 2}: n >= 0 && n <= 1<<40,
				{Region: 5, At: n, Size: 65535}: short,
				{Region: 5, At: 65535, Size: n}: short,
			} {
				b := of(0, 0, 1, 2, 3)
				b.Entries[at].Loc = loc
				right(t, fmt.Sprint(loc), b, 3, want)
			}
		}
	}
}

// P14.1: a load has the bytes that the document words, and is read as it was.
func TestPack(t *testing.T) {
	row, e := Pack(Bucket{3, 5, []Entry{{0xa102030405060708, region.Loc{Region: 0x0a0b0c0d0e, At: 0x0102, Size: 0x0304}}}}, 1)
	want := []byte{3, 1, 5, 0, 0, 0, 0, 0, 0, 0, 8, 7, 6, 5, 4, 3, 2, 0xa1, 0x0e, 0x0d, 0x0c, 0x0b, 0x0a, 0, 0, 0, 2, 1, 4, 3}
	if e != api.OK || !bytes.Equal(row, want) {
		t.Errorf("load %x, error %d, want %x", row, e, want)
	}
	full := Bucket{}
	for i := range 255 {
		full.Entries = append(full.Entries, Entry{uint64(i) << 50, greatest})
	}
	for _, b := range []Bucket{{}, {8, 255, nil}, of(8, 255, 0xff00, 0xffff), of(0, 0, 0, 9, 1000), of(2, 2, 0x8001, 0x9001, 0xbfff), full} {
		for _, slots := range []int{max(len(b.Entries), 1), 254, 255} {
			row, e := Pack(b, slots)
			if slots < len(b.Entries) {
				noBucket(t, "too many", load(b), slots)
				continue
			}
			if e != api.OK || !bytes.Equal(row, load(b)) {
				t.Fatalf("%v: load %x, error %d", b, row, e)
			}
			unpacks(t, "again", row, slots, b)
		}
	}
}

// P14.1: no load of a bucket's: ErrForm of each length that is wrong, each
// number that may not be, and of slots that may not be.
func TestUnpackWrong(t *testing.T) {
	b := of(2, 1, 0x4000, 0x5000, 0x7fff)
	whole := load(b)
	for n := range len(whole) {
		noBucket(t, "cut", whole[:n], 3)
	}
	for _, more := range [][]byte{{0}, {1, 2}, make([]byte, 20), make([]byte, 1000)} {
		noBucket(t, "more", slices.Concat(whole, more), 3)
		noBucket(t, "more", slices.Concat(whole, more), 255)
	}
	noBucket(t, "nothing", nil, 3)
	for _, slots := range []int{math.MinInt, -3, 0, 1, 2, 256, 300, math.MaxInt} {
		noBucket(t, "slots", whole, slots)
		if slots < 1 || slots > 255 {
			noBucket(t, "slots", load(Bucket{}), slots)
		}
	}
	for name, x := range map[string]struct {
		at int
		b  []byte
	}{
		"depth":           {0, []byte{1}},
		"great depth":     {0, []byte{9}},
		"greatest depth":  {0, []byte{255}},
		"count less":      {1, []byte{2}},
		"count more":      {1, []byte{4}},
		"great count":     {1, []byte{255}},
		"no count":        {1, []byte{0}},
		"prefix":          {2, lowest(2, 8)},
		"great prefix":    {2, lowest(4+1, 8)},
		"greater prefix":  {2, lowest(1<<32+1, 8)},
		"prefix of 2^63":  {2, lowest(1<<63+1, 8)},
		"prefix all ones": {2, lowest(math.MaxUint64, 8)},
		"number":          {10, lowest(0x3fff<<48, 8)},
		"other number":    {50, lowest(0x8000<<48, 8)},
		"number twice":    {30, lowest(b.Entries[0].Hash, 8)},
		"numbers turned":  {10, lowest(b.Entries[1].Hash+1, 8)},
		"region":          {18, lowest(1<<40+1, 8)},
		"great region":    {38, lowest(1<<63, 8)},
		"greatest region": {58, lowest(math.MaxUint64, 8)},
	} {
		row := slices.Clone(whole)
		copy(row[x.at:], x.b)
		noBucket(t, name, row, 3)
	}
	row := slices.Clone(whole)
	copy(row[18:], lowest(1<<40, 8))
	copy(row[26:], []byte{255, 255, 255, 255})
	b.Entries[0].Loc = greatest
	unpacks(t, "greatest", row, 3, b)
}

// P14.1: of whatever bytes just those are read that are a bucket's load, and as
// that bucket.
func TestUnpackAny(t *testing.T) {
	r := rand.New(rand.NewPCG(3, 14))
	read := 0
	for range 30000 {
		depth := r.IntN(9)
		b := Bucket{Depth: depth, Prefix: r.IntN(1 << depth)}
		for range r.IntN(4) {
			hash := uint64(b.Prefix)<<56<<(8-depth) | r.Uint64()>>depth
			b = Put(b, Entry{hash, region.Loc{Region: r.IntN(1 << 40), At: r.IntN(65536), Size: r.IntN(65536)}})
		}
		row := load(b)
		for range r.IntN(3) {
			row[r.IntN(len(row))] ^= 1 << r.IntN(8)
		}
		slots := 1 + r.IntN(4)
		got, e := Unpack(row, slots)
		switch {
		case e == api.OK && (!worded(got, slots) || !bytes.Equal(load(got), row)):
			t.Fatalf("%x is read as %v", row, got)
		case e == api.OK:
			read++
		case e != api.ErrForm || !reflect.DeepEqual(got, Bucket{}):
			t.Fatalf("%x: %v, error %d", row, got, e)
		case bytes.Equal(row, load(b)) && len(b.Entries) <= slots:
			t.Fatalf("%x is not read", row)
		}
	}
	if read < 10000 || read > 25000 {
		t.Errorf("%d were read", read)
	}
}

// P14.1: a bucket of as many entries as a layout has slots goes just into a
// leaf's load.
func TestGoesIntoALeaf(t *testing.T) {
	for size := api.MinSector; size <= api.MaxSector; size++ {
		layout, e := plan.Fit(plan.Plan{Sectors: 100, Size: size, Regions: 3, RegionSectors: 1, LogSectors: 4, Memory: 8})
		if e != api.OK {
			t.Fatalf("size %d: error %d", size, e)
		}
		var b Bucket
		for i := range layout.Slots {
			b = Put(b, entry(i))
		}
		row, e := Pack(b, layout.Slots)
		if room := leaf.Room(size); e != api.OK || len(row) > room || len(row)+20 <= room {
			t.Errorf("size %d: %d bytes, error %d, room %d", size, len(row), e, room)
		}
	}
}

// P14.2: the location of each entry's number is found, with more entries than
// slots, too; of another number none is.
func TestFind(t *testing.T) {
	var b Bucket
	for i := range 600 {
		b.Entries = append(b.Entries, entry(1+2*i))
	}
	for i := range 600 {
		if x, is := Find(b, entry(1+2*i).Hash); !is || x != entry(1+2*i).Loc {
			t.Fatalf("entry %d: %v, %t", i, x, is)
		}
		for _, hash := range []uint64{entry(2 * i).Hash, entry(1+2*i).Hash + 1, entry(1+2*i).Hash - 1} {
			if x, is := Find(b, hash); is || x != (region.Loc{}) {
				t.Fatalf("number %x: %v, %t", hash, x, is)
			}
		}
	}
	for _, hash := range []uint64{0, 1, math.MaxUint64} {
		if x, is := Find(Bucket{}, hash); is || x != (region.Loc{}) {
			t.Errorf("of none: %v, %t", x, is)
		}
		at := Bucket{Entries: []Entry{{hash, greatest}}}
		if x, is := Find(at, hash); !is || x != greatest {
			t.Errorf("number %x: %v, %t", hash, x, is)
		}
	}
}

// P14.2: what is put stands in the place of the entry of its number, or beside
// the others, by its number; depth and prefix stay.
func TestPut(t *testing.T) {
	b := of(3, 2, 0x4000, 0x4800, 0x5000)
	for _, x := range []struct {
		high int
		want []int
	}{
		{0x4001, []int{0x4000, 0x4001, 0x4800, 0x5000}},
		{0x4801, []int{0x4000, 0x4800, 0x4801, 0x5000}},
		{0x5fff, []int{0x4000, 0x4800, 0x5000, 0x5fff}},
	} {
		is(t, "beside", Put(b, entry(x.high)), of(3, 2, x.want...))
	}
	is(t, "first", Put(of(0, 0, 5, 6), entry(4)), of(0, 0, 4, 5, 6))
	is(t, "of none", Put(Bucket{Depth: 3, Prefix: 2}, entry(0x4000)), of(3, 2, 0x4000))
	for at := range b.Entries {
		want := of(3, 2, 0x4000, 0x4800, 0x5000)
		want.Entries[at].Loc = greatest
		is(t, "in its place", Put(b, want.Entries[at]), want)
		is(t, "the same", Put(want, want.Entries[at]), want)
	}
	ends := Put(Put(Bucket{}, Entry{Hash: math.MaxUint64}), Entry{Hash: 0})
	is(t, "ends", ends, Bucket{Entries: []Entry{{Hash: 0}, {Hash: math.MaxUint64}}})
}

// P14.2: what is dropped is not there, the others are; where there was none,
// nothing is another.
func TestDrop(t *testing.T) {
	b := of(3, 2, 0x4000, 0x4800, 0x5000)
	for i, want := range [][]int{{0x4800, 0x5000}, {0x4000, 0x5000}, {0x4000, 0x4800}} {
		got, was := Drop(b, b.Entries[i].Hash)
		is(t, "dropped", got, of(3, 2, want...))
		if !was {
			t.Error("there was one")
		}
	}
	for _, hash := range []uint64{0, 1, entry(0x4000).Hash + 1, entry(0x4800).Hash - 1, math.MaxUint64} {
		got, was := Drop(b, hash)
		is(t, "there was none", got, b)
		if was {
			t.Errorf("number %x: there was none", hash)
		}
	}
	got, was := Drop(of(3, 2, 0x4000), entry(0x4000).Hash)
	is(t, "the last one", got, Bucket{Depth: 3, Prefix: 2})
	if _, again := Drop(got, entry(0x4000).Hash); !was || again {
		t.Errorf("there was one: %t, again: %t", was, again)
	}
}

// P14.2: without the entries whose regions are below a number.
func TestFresh(t *testing.T) {
	b := of(2, 3, 0xc000, 0xc100, 0xc200, 0xc300, 0xc400)
	for i, q := range []int{7, 3, 1 << 40, 0, 7} {
		b.Entries[i].Loc.Region = q
	}
	for _, x := range []struct {
		oldest int
		want   []int
	}{
		{math.MinInt, []int{0, 1, 2, 3, 4}},
		{-1, []int{0, 1, 2, 3, 4}},
		{0, []int{0, 1, 2, 3, 4}},
		{1, []int{0, 1, 2, 4}},
		{3, []int{0, 1, 2, 4}},
		{4, []int{0, 2, 4}},
		{7, []int{0, 2, 4}},
		{8, []int{2}},
		{1 << 40, []int{2}},
		{1<<40 + 1, nil},
		{math.MaxInt, nil},
	} {
		want := Bucket{Depth: 2, Prefix: 3}
		for _, at := range x.want {
			want.Entries = append(want.Entries, b.Entries[at])
		}
		is(t, fmt.Sprint("below ", x.oldest), Fresh(b, x.oldest), want)
	}
	is(t, "of none", Fresh(Bucket{Depth: 2, Prefix: 3}, 5), Bucket{Depth: 2, Prefix: 3})
}

// P14.2, P14.3: the halves of a bucket are of one more depth, their prefixes have
// 0 and 1 behind it, and each has its entries, in their order.
func TestSplit(t *testing.T) {
	got := Split(Bucket{Entries: []Entry{{Hash: 1}, {Hash: 1 << 63}}})
	is(t, "example, 0", got[0], Bucket{1, 0, []Entry{{Hash: 1}}})
	is(t, "example, 1", got[1], Bucket{1, 1, []Entry{{Hash: 1 << 63}}})
	for depth := range 9 {
		for prefix := range 1 << depth {
			first := uint64(prefix) << 1 << (63 - depth)
			half := uint64(1) << (63 - depth)
			var halves [2]Bucket
			whole := Bucket{Depth: depth, Prefix: prefix}
			for i := range halves {
				begin := first + uint64(i)*half
				halves[i] = Bucket{depth + 1, 2*prefix + i, []Entry{{begin, greatest}, {begin + 1, greatest}, {begin + half/2, greatest}, {begin + half - 1, region.Loc{}}}}
				whole.Entries = append(whole.Entries, halves[i].Entries...)
			}
			if !Right(whole, 8) {
				t.Fatalf("the test is wrong: %v", whole)
			}
			for i, b := range Split(whole) {
				is(t, fmt.Sprintf("depth %d, prefix %d, half %d", depth, prefix, i), b, halves[i])
				if Right(b, 8) != (depth < 8) {
					t.Errorf("depth %d: half %d is right: %t", depth, i, depth == 8)
				}
			}
			for i := range halves {
				only := Split(Bucket{depth, prefix, halves[i].Entries})
				is(t, "one half only", only[i], halves[i])
				is(t, "the other half", only[1-i], Bucket{depth + 1, 2*prefix + 1 - i, nil})
			}
		}
	}
}

// P14.2: the eldest entry is that of the least region, of the same the least
// place, of the same the first.
func TestElder(t *testing.T) {
	for _, x := range []struct {
		locs []region.Loc
		want int
	}{
		{nil, -1},
		{[]region.Loc{{}}, 0},
		{[]region.Loc{greatest}, 0},
		{[]region.Loc{{Region: 2}, {Region: 1}, {Region: 3}}, 1},
		{[]region.Loc{{Region: 1}, {Region: 2}, {Region: 3}}, 0},
		{[]region.Loc{{Region: 3}, {Region: 2}, {Region: 1}}, 2},
		{[]region.Loc{{Region: 1, At: 9}, {Region: 2, At: 0}, {Region: 1, At: 8}}, 2},
		{[]region.Loc{{Region: 1, At: 9}, {Region: 0, At: 65535}, {Region: 1, At: 8}}, 1},
		{[]region.Loc{{Region: 1, At: 7}, {Region: 1, At: 6}, {Region: 1, At: 6}}, 1},
		{[]region.Loc{{Region: 1, At: 7, Size: 5}, {Region: 1, At: 7, Size: 3}, {Region: 1, At: 7, Size: 4}}, 0},
		{[]region.Loc{{Region: 1, At: 7}, {Region: 1, At: 7}, {Region: 1, At: 7}}, 0},
		{[]region.Loc{greatest, greatest, {Region: 1 << 40, At: 65535}}, 0},
		{[]region.Loc{{Region: 5, At: 5, Size: 5}, {Region: 5, At: 5, Size: 1}, {Region: 4, At: 9}, {Region: 4, At: 9, Size: 1}}, 2},
	} {
		b := Bucket{}
		for i, loc := range x.locs {
			b.Entries = append(b.Entries, Entry{uint64(i), loc})
		}
		if got := Elder(b); got != x.want {
			t.Errorf("%v: %d, want %d", x.locs, got, x.want)
		}
	}
}

// P14.2, P14.3: whatever is put, dropped, left out or split: a bucket has just
// the entries that it should, however many they are; what was put is found, what
// was dropped is not.
func TestAsWorded(t *testing.T) {
	for seed := range uint64(40) {
		r := rand.New(rand.NewPCG(seed, 14))
		depth := r.IntN(5)
		b := Bucket{Depth: depth, Prefix: r.IntN(1 << depth)}
		want := map[uint64]region.Loc{}
		var numbers []uint64
		for range 30 {
			numbers = append(numbers, uint64(b.Prefix)<<56<<(8-depth)|r.Uint64()>>depth)
		}
		for step := range 300 {
			hash := numbers[r.IntN(len(numbers))]
			_, there := want[hash]
			switch r.IntN(12) {
			case 0, 1, 2, 3:
				before := b
				var was bool
				b, was = Drop(b, hash)
				if was != there || there == (len(b.Entries) == len(before.Entries)) {
					t.Fatalf("seed %d, step %d: there was one: %t, want %t", seed, step, was, there)
				}
				delete(want, hash)
			case 4:
				oldest := r.IntN(1 + step/10)
				b = Fresh(b, oldest)
				for h, loc := range want {
					if loc.Region < oldest {
						delete(want, h)
					}
				}
			default:
				want[hash] = region.Loc{Region: r.IntN(1 + step/5), At: r.IntN(3), Size: r.IntN(9)}
				b = Put(b, Entry{hash, want[hash]})
			}
			holds(t, b, want, numbers)
		}
	}
}

// holds holds a bucket to having just the entries of a map, and its halves and
// its eldest entry to these.
func holds(t *testing.T, b Bucket, want map[uint64]region.Loc, numbers []uint64) {
	t.Helper()
	if !worded(b, 255) || len(b.Entries) != len(want) {
		t.Fatalf("%v, want %v", b, want)
	}
	for _, hash := range numbers {
		loc, there := want[hash]
		if x, is := Find(b, hash); is != there || x != loc {
			t.Fatalf("number %x: %v, %t, want %v, %t", hash, x, is, loc, there)
		}
	}
	halves := Split(b)
	if !slices.Equal(slices.Concat(halves[0].Entries, halves[1].Entries), b.Entries) {
		t.Fatalf("halves of %v: %v", b, halves)
	}
	for i, half := range halves {
		if half.Depth != b.Depth+1 || half.Prefix != mix.Slots(b.Prefix, b.Depth, b.Depth+1)[i] || !worded(half, 255) {
			t.Fatalf("half %d of %v: %v", i, b, half)
		}
	}
	eldest := -1
	for i, x := range b.Entries {
		if eldest < 0 || x.Loc.Region < b.Entries[eldest].Loc.Region || x.Loc.Region == b.Entries[eldest].Loc.Region && x.Loc.At < b.Entries[eldest].Loc.At {
			eldest = i
		}
	}
	if Elder(b) != eldest {
		t.Fatalf("the eldest of %v is %d, want %d", b, Elder(b), eldest)
	}
}

// P14.2: what is handed in is not changed, nor the spare room behind its end;
// what is handed out shares nothing with it, nor the halves with one another.
func TestMemory(t *testing.T) {
	spare := of(0, 0, 1, 2, 3, 0x8001, 0x8002, 0x8003, 9, 9, 9)
	b := Bucket{Entries: spare.Entries[:6]}
	whole := slices.Clone(spare.Entries)
	halves := Split(b)
	dropped, _ := Drop(b, entry(2).Hash)
	none, _ := Drop(b, entry(7).Hash)
	row := load(b)
	packed, _ := Pack(b, 6)
	read, _ := Unpack(row, 6)
	for i, x := range []Bucket{
		Put(b, entry(4)), Put(b, entry(3)), Put(b, entry(0xffff)), Put(b, entry(0)),
		dropped, none, Fresh(b, 5), Fresh(b, 0), halves[0], halves[1], read,
	} {
		other := slices.Clone(halves[1].Entries)
		filled := append(x.Entries, make([]Entry, cap(x.Entries)-len(x.Entries))...)
		for at := range filled {
			filled[at] = Entry{77, greatest}
		}
		if !slices.Equal(spare.Entries, whole) {
			t.Fatalf("answer %d shares memory with what was handed in", i)
		}
		if i == 8 && !slices.Equal(halves[1].Entries, other) {
			t.Fatal("the halves share memory")
		}
	}
	clear(packed)
	if again, _ := Pack(b, 6); !bytes.Equal(again, row) || !bytes.Equal(row, load(Bucket{Entries: whole[:6]})) {
		t.Error("a load shares memory")
	}
}

// P14.1, P14.2: each call ends, and none panics, of what is no bucket, too.
func TestAnything(t *testing.T) {
	rows := [][]Entry{
		nil,
		{{}},
		{{}, {}},
		{{5, greatest}, {3, region.Loc{}}, {5, region.Loc{Region: -1}}},
		{{math.MaxUint64, region.Loc{Region: math.MinInt, At: math.MinInt, Size: math.MinInt}}, {0, region.Loc{Region: math.MaxInt, At: math.MaxInt, Size: math.MaxInt}}},
		slices.Repeat([]Entry{{9, greatest}}, 1000),
	}
	odd := []int{math.MinInt, -65, -64, -1, 0, 1, 8, 9, 30, 31, 62, 63, 64, 65, math.MaxInt - 1, math.MaxInt}
	for _, depth := range odd {
		for _, prefix := range odd {
			for _, row := range rows {
				b := Bucket{depth, prefix, row}
				for _, slots := range []int{math.MinInt, 0, 3, 255, math.MaxInt} {
					if is := worded(b, slots); Right(b, slots) != is {
						t.Fatalf("%v, %d slots: Right is %t", b, slots, !is)
					}
				}
				for _, hash := range []uint64{0, 5, 9, math.MaxUint64} {
					Find(b, hash)
					Put(b, Entry{hash, region.Loc{Region: depth, At: prefix}})
					Drop(b, hash)
				}
				Fresh(b, prefix)
				Split(b)
				Elder(b)
			}
		}
	}
}
