package audit

import (
	"fmt"
	"math"
	"math/rand/v2"
	"reflect"
	"slices"
	"testing"

	"sgraffito/api"
	"sgraffito/bucket"
	"sgraffito/flash"
	"sgraffito/index"
	"sgraffito/leaf"
	"sgraffito/region"
	"sgraffito/super"
)

// at tells a slot: of the page n, with the stamp 1, a bucket with some entries, whose
// numbers begin with the prefix.
func at(n, depth, prefix int, entries ...uint64) index.Slot {
	x := index.Slot{Ref: super.Ref{Page: n, Stamp: 1}, Bucket: bucket.Bucket{Depth: depth, Prefix: prefix}}
	for _, y := range entries {
		hash := y
		if depth > 0 {
			hash = uint64(prefix)<<(64-depth) | y
		}
		x.Bucket.Entries = append(x.Bucket.Entries, bucket.Entry{Hash: hash, Loc: region.Loc{Region: 1, Size: 14}})
	}
	return x
}

// upTo tells the numbers from 1 to n.
func upTo(n int) []uint64 {
	var list []uint64
	for i := range n {
		list = append(list, uint64(i+1))
	}
	return list
}

// evenly tells 2^depth slots with a bucket each.
func evenly(depth int) []index.Slot {
	var list []index.Slot
	for n := range 1 << depth {
		list = append(list, at(n, depth, n, 5, 6))
	}
	return list
}

// times tells a slot so many times, each with entries of its own.
func times(x index.Slot, n int) []index.Slot {
	var list []index.Slot
	for range n {
		y := x
		y.Bucket.Entries = slices.Clone(x.Bucket.Entries)
		list = append(list, y)
	}
	return list
}

// P19.2: the slots of a directory are right, up to the greatest depth, as deep as each
// bucket is, with as many entries as a bucket may have.
func TestShapeRight(t *testing.T) {
	for depth := range api.MaxDepth + 1 {
		if !Shape(depth, evenly(depth)) {
			t.Errorf("depth %d, each its own", depth)
		}
		if !Shape(depth, times(at(0, 0, 0, 1, 2, 3), 1<<depth)) {
			t.Errorf("depth %d, all the same", depth)
		}
		var list []index.Slot
		for d := depth; d > 0; d-- { // 1, 01, 001, 0001, and so on
			list = slices.Concat(times(at(d, d, 1, 7), 1<<(depth-d)), list)
			if d == depth {
				list = slices.Concat(times(at(0, d, 0), 1), list)
			}
		}
		if depth > 0 && !Shape(depth, sorted(list, depth)) {
			t.Errorf("depth %d, of all depths: %v", depth, list)
		}
	}
	for name, l := range map[string][]index.Slot{
		"empty":           {at(0, 0, 0)},
		"most entries":    {at(0, 0, 0, upTo(255)...)},
		"two halves":      {at(8, 1, 0, 0), at(0, 1, 1, 1<<62)},
		"great page":      {at(math.MaxInt, 1, 0), at(1<<31-1, 1, 1)},
		"greatest number": {at(3, 0, 0, math.MaxUint64)},
	} {
		depth := len(l) - 1
		if !Shape(depth, l) {
			t.Errorf("%s", name)
		}
	}
	other := at(5, 1, 1)
	other.Ref.Stamp = 2
	if !Shape(1, []index.Slot{at(5, 1, 0), other}) {
		t.Error("one page with two stamps is two pages here")
	}
	empty := at(5, 0, 0)
	empty.Bucket.Entries = []bucket.Entry{}
	if !Shape(1, []index.Slot{at(5, 0, 0), empty}) || !Shape(1, []index.Slot{empty, at(5, 0, 0)}) {
		t.Error("a list that is empty may be nil")
	}
}

// sorted tells slots by their buckets' prefixes.
func sorted(l []index.Slot, depth int) []index.Slot {
	return slices.SortedStableFunc(slices.Values(l), func(x, y index.Slot) int {
		return x.Bucket.Prefix<<(depth-x.Bucket.Depth) - y.Bucket.Prefix<<(depth-y.Bucket.Depth)
	})
}

// P19.2: there are 2^depth slots, of a depth from 0 to 8.
func TestShapeDepth(t *testing.T) {
	for _, depth := range []int{math.MinInt, -64, -1, 9, 10, 20, 62, 63, 64, 65, 1 << 32, math.MaxInt} {
		for _, l := range [][]index.Slot{nil, {}, {at(0, 0, 0)}, evenly(1), evenly(9), evenly(10)} {
			if Shape(depth, l) {
				t.Errorf("depth %d, %d slots", depth, len(l))
			}
		}
	}
	for depth := range api.MaxDepth + 1 {
		for _, n := range []int{0, 1, 2, 3, 1<<depth - 1, 1 << depth, 1<<depth + 1, 2 << depth} {
			l := times(at(0, 0, 0), n)
			if got := Shape(depth, l); got != (n == 1<<depth) {
				t.Errorf("depth %d, %d slots: %v", depth, n, got)
			}
		}
	}
}

// P19.2: each bucket is one, of 255 slots.
func TestShapeBuckets(t *testing.T) {
	entry := func(hash uint64, l region.Loc) bucket.Entry { return bucket.Entry{Hash: hash, Loc: l} }
	for name, b := range map[string]bucket.Bucket{
		"too many":           at(0, 0, 0, upTo(256)...).Bucket,
		"twice":              at(0, 0, 0, 1, 1).Bucket,
		"another order":      at(0, 0, 0, 2, 1).Bucket,
		"a prefix without":   {Prefix: 1},
		"a depth below 0":    {Depth: -1},
		"a prefix below 0":   {Prefix: -1},
		"least depth":        {Depth: math.MinInt},
		"greatest depth":     {Depth: math.MaxInt},
		"depth 9":            {Depth: 9},
		"region below 0":     {Entries: []bucket.Entry{entry(1, region.Loc{Region: -1})}},
		"region above":       {Entries: []bucket.Entry{entry(1, region.Loc{Region: 1<<40 + 1})}},
		"place above":        {Entries: []bucket.Entry{entry(1, region.Loc{At: 65536})}},
		"size below 0":       {Entries: []bucket.Entry{entry(1, region.Loc{Size: -1})}},
		"deeper":             {Depth: 1},
		"deeper, with 1":     {Depth: 1, Prefix: 1},
		"the deepest":        {Depth: 8},
		"deeper than a word": {Depth: 65},
	} {
		for depth := range api.MaxDepth + 1 {
			l := times(index.Slot{Bucket: b}, 1<<depth)
			if Shape(depth, l) {
				t.Errorf("%s, depth %d", name, depth)
			}
		}
	}
	for n := range 8 {
		l := evenly(3)
		l[n].Bucket.Entries[1].Hash ^= 1 << 63
		if Shape(3, l) {
			t.Errorf("slot %d has an entry of another bucket", n)
		}
		l = evenly(3)
		l[n].Bucket = at(n, 3, n, 6, 5).Bucket
		if Shape(3, l) {
			t.Errorf("slot %d is in another order", n)
		}
		l = evenly(3)
		l[n].Bucket = at(n, 4, 2*n, 5).Bucket
		if Shape(3, l) {
			t.Errorf("slot %d is deeper than the directory", n)
		}
	}
}

// P19.2: each page stands in just the slots that begin with its bucket's prefix.
func TestShapePages(t *testing.T) {
	half := at(9, 1, 1, 4)
	for name, l := range map[string][]index.Slot{
		"another row":              {at(0, 2, 1), at(1, 2, 0), half, half},
		"rows by turns":            {half, half, at(0, 2, 0), at(1, 2, 1)},
		"in too few":               {at(0, 2, 0), at(1, 2, 1), half, at(2, 2, 3)},
		"in too few, at its front": {at(0, 2, 0), at(1, 2, 1), at(2, 2, 2), half},
		"in too many":              {at(0, 2, 0), at(9, 1, 1, 4), half, half},
		"in all":                   {half, half, half, half},
		"two pages alike":          {at(0, 2, 0), at(1, 2, 1), half, at(8, 1, 1, 4)},
		"two buckets":              {at(0, 2, 0), at(1, 2, 1), half, at(9, 1, 1, 5)},
		"two buckets, one empty":   {at(0, 2, 0), at(1, 2, 1), half, at(9, 1, 1)},
		"two buckets of one depth": {at(0, 1, 0), at(0, 1, 0), at(0, 1, 1), at(0, 1, 1)},
		"one page, two of a row":   {at(0, 1, 0), at(3, 2, 1), at(0, 1, 1), at(4, 2, 3)},
		"two depths":               {at(0, 1, 0), at(0, 1, 0), at(9, 1, 1), at(9, 2, 3)},
	} {
		if Shape(2, l) {
			t.Errorf("%s: %v", name, l)
		}
	}
	stamped := half
	stamped.Ref.Stamp = 2
	if Shape(2, []index.Slot{at(0, 2, 0), at(1, 2, 1), half, stamped}) {
		t.Error("one page with two stamps is two pages here: each stands in too few")
	}
	if !Shape(2, []index.Slot{at(0, 2, 0), at(1, 2, 1), half, half}) {
		t.Error("right")
	}
}

// shaped tells whether slots are right, word by word.
func shaped(depth int, l []index.Slot) bool {
	if depth < 0 || depth > 8 || len(l) != 1<<depth {
		return false
	}
	for n, x := range l {
		b := x.Bucket
		if !bucket.Right(b, 255) || b.Depth > depth {
			return false
		}
		for m, y := range l {
			begins := fmt.Sprintf("%0*b", 10+depth, m)[10:][:b.Depth] == fmt.Sprintf("%0*b", 10+b.Depth, b.Prefix)[10:]
			stands := y.Ref == x.Ref
			if begins != stands || stands && !reflect.DeepEqual(b, y.Bucket) || n == m && !stands {
				return false
			}
		}
	}
	return true
}

// P19.2: right slots in which something is changed by chance are as right as word by
// word.
func TestShapeByChance(t *testing.T) {
	r := rand.New(rand.NewPCG(19, 2))
	right := 0
	for range 30000 {
		depth := r.IntN(4)
		l := parted(r, depth, 0, 0)
		for range r.IntN(3) {
			spoil(r, l)
		}
		got, want := Shape(depth, l), shaped(depth, l)
		if got != want {
			t.Fatalf("depth %d: %v, want %v: %v", depth, got, want, l)
		}
		if got {
			right++
		}
	}
	if right < 5000 || right > 25000 {
		t.Errorf("%d of 30000 were right", right)
	}
}

// parted tells right slots by chance: those that begin with a prefix of so many bits.
func parted(r *rand.Rand, depth, bits, prefix int) []index.Slot {
	if bits < depth && r.IntN(3) > 0 {
		return slices.Concat(parted(r, depth, bits+1, 2*prefix), parted(r, depth, bits+1, 2*prefix+1))
	}
	x := at(r.IntN(1000), bits, prefix, upTo(r.IntN(3))...)
	return times(x, 1<<(depth-bits))
}

// spoil changes something in slots.
func spoil(r *rand.Rand, l []index.Slot) {
	x, y := &l[r.IntN(len(l))], l[r.IntN(len(l))]
	switch r.IntN(7) {
	case 0:
		x.Ref = y.Ref
	case 1:
		x.Ref.Stamp = 3 - x.Ref.Stamp
	case 2:
		x.Bucket = times(y, 1)[0].Bucket
	case 3:
		*x = times(y, 1)[0]
	case 4:
		x.Bucket.Depth += r.IntN(3) - 1
	case 5:
		x.Bucket.Prefix += r.IntN(3) - 1
	default:
		if len(x.Bucket.Entries) > 0 {
			x.Bucket.Entries[0].Hash ^= 1 << (60 + r.IntN(4))
		}
	}
}

// P19.2: what is handed in is not changed.
func TestShapeHandedIn(t *testing.T) {
	l := evenly(3)
	l[2].Bucket.Prefix = 7
	was := fmt.Sprint(l)
	Shape(3, l)
	Live(Report{Slots: l, Regions: []Region{{Number: 1}}})
	if now := fmt.Sprint(l); now != was {
		t.Errorf("%s, was %s", now, was)
	}
}

// P19.1: Torn tells the sectors that are neither 0 nor a leaf's, in order.
func TestTorn(t *testing.T) {
	for _, size := range []int{96, 97, 511, 512} {
		d := flash.New(9, size)
		put := func(n int, change func(b []byte)) {
			b, e := leaf.Build(size, leaf.Leaf{Kind: 4, Place: 77, Stamp: 1 << 50, Load: []byte("some load")})
			need(t, "Build", e, api.OK)
			change(b)
			need(t, "Write", d.Write(n, b), api.OK)
		}
		torn := func(name string, want ...int) {
			t.Helper()
			if l := Torn(d); !slices.Equal(l, want) {
				t.Errorf("%s, of %d: %d, want %d", name, size, l, want)
			}
		}
		torn("all 0")
		put(8, func(b []byte) { b[size-1] ^= 1 })
		torn("the last byte", 8)
		put(3, func(b []byte) { b[0] ^= 1 })
		torn("the first byte", 3, 8)
		put(4, func(b []byte) {})
		torn("a leaf, of whatever kind and place", 3, 8)
		put(0, func(b []byte) { clear(b[1:]) })
		put(1, func(b []byte) { clear(b[:size-1]) })
		put(2, func(b []byte) { clear(b) })
		torn("nearly 0", 0, 1, 3, 8)
		need(t, "Sync", d.Sync(), api.OK)
		torn("fast", 0, 1, 3, 8)
		put(3, func(b []byte) {})
		put(4, func(b []byte) { b[20] ^= 16 })
		torn("loose", 0, 1, 4, 8)
		o := d.Copy()
		down(d)
		torn("down")
		d.Crash(nil)
		torn("not done", 0, 1, 3, 8)
		d = o
		d.Crash([]int{size, 50})
		torn("done in part", 0, 1, 4, 8)
		d.Rot(4, 20, 16)
		d.Rot(1, 30, 1)
		torn("rot", 0, 1, 8)
	}
	if l := Torn(nil); len(l) != 0 {
		t.Errorf("no device: %d", l)
	}
}

// P19.1: every single bit of a leaf's sector counts.
func TestTornBits(t *testing.T) {
	d := flash.New(3, 96)
	need(t, "Put", leaf.Put(d, 1, leaf.Leaf{Kind: 2, Place: 0, Stamp: 0}), api.OK)
	need(t, "Sync", d.Sync(), api.OK)
	for n := range 96 {
		for bit := range 8 {
			for at, want := range [][]int{{0, 2}, nil, {1, 2}} {
				d.Rot(2, n, 1<<bit)
				d.Rot(at, n, 1<<bit)
				l := Torn(d)
				d.Rot(2, n, 1<<bit)
				d.Rot(at, n, 1<<bit)
				switch at {
				case 0:
				case 1:
					want = []int{1, 2}
				default:
					want = nil
				}
				if !slices.Equal(l, want) {
					t.Fatalf("byte %d, bit %d, sector %d: %d, want %d", n, bit, at, l, want)
				}
			}
		}
	}
}

// P19.1: Live tells how many different locations there are in the slots, of regions that
// are among the report's.
func TestLive(t *testing.T) {
	slot := func(l ...region.Loc) index.Slot {
		var x index.Slot
		for n, y := range l {
			x.Bucket.Entries = append(x.Bucket.Entries, bucket.Entry{Hash: uint64(n), Loc: y})
		}
		return x
	}
	loc := func(q, at, size int) region.Loc { return region.Loc{Region: q, At: at, Size: size} }
	there := func(l ...int) []Region {
		var list []Region
		for _, q := range l {
			list = append(list, Region{Number: q})
		}
		return list
	}
	for _, x := range []struct {
		name    string
		slots   []index.Slot
		regions []Region
		want    int
	}{
		{"nothing", nil, nil, 0},
		{"no regions", []index.Slot{slot(loc(1, 0, 9))}, nil, 0},
		{"region 0 is not there", []index.Slot{slot(loc(0, 0, 0))}, there(1, 2), 0},
		{"no slots", nil, there(1, 2, 3), 0},
		{"empty", []index.Slot{slot(), slot()}, there(1), 0},
		{"one", []index.Slot{slot(loc(1, 0, 9))}, there(1), 1},
		{"one of two", []index.Slot{slot(loc(1, 0, 9), loc(2, 0, 9))}, there(2, 3), 1},
		{"the first region, the last one", []index.Slot{slot(loc(4, 0, 9), loc(6, 0, 9), loc(7, 0, 9))}, there(4, 5, 6), 2},
		{"twice in a bucket", []index.Slot{slot(loc(1, 5, 9), loc(1, 5, 9))}, there(1), 1},
		{"in two slots", []index.Slot{slot(loc(1, 5, 9)), slot(loc(1, 5, 9)), slot(loc(1, 6, 9))}, there(1), 2},
		{"other sizes", []index.Slot{slot(loc(1, 5, 9)), slot(loc(1, 5, 10))}, there(1), 2},
		{"other regions", []index.Slot{slot(loc(1, 5, 9)), slot(loc(2, 5, 9))}, there(2, 1), 2},
		{"a region twice", []index.Slot{slot(loc(1, 5, 9), loc(1, 6, 9))}, there(1, 1), 2},
		{"numbers that there are not", []index.Slot{slot(loc(-1, -5, -9), loc(math.MinInt, 0, 0), loc(math.MaxInt, 1, 1))}, there(-1, math.MaxInt), 2},
	} {
		if n := Live(Report{Slots: x.slots, Regions: x.regions}); n != x.want {
			t.Errorf("%s: %d, want %d", x.name, n, x.want)
		}
	}
}
