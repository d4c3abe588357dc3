package index

import (
	"bytes"
	"cmp"
	"fmt"
	"maps"
	"math"
	"math/rand/v2"
	"reflect"
	"slices"
	"testing"

	"sgraffito/api"
	"sgraffito/bucket"
	"sgraffito/dir"
	"sgraffito/flash"
	"sgraffito/plan"
	"sgraffito/region"
	"sgraffito/store"
	"sgraffito/super"
)

// deep is the plan with which most is tried: buckets of 3 entries, up to 8 slots, 6
// of them in a page of references. flat has but one slot. tight has up to 16 slots,
// odd up to 64, buckets of 5 and 9 in a page; these three have the fewest pages that
// may be. wide has the greatest numbers: up to 256 slots, buckets of 24.
var (
	deep  = plan.Plan{Sectors: 120, Size: 96, Regions: 3, RegionSectors: 2, LogSectors: 4, Depth: 3, Memory: 8}
	flat  = plan.Plan{Sectors: 22, Size: 96, Regions: 3, RegionSectors: 1, LogSectors: 4, Depth: 0, Memory: 8}
	tight = plan.Plan{Sectors: 73, Size: 96, Regions: 3, RegionSectors: 1, LogSectors: 4, Depth: 4, Memory: 8}
	odd   = plan.Plan{Sectors: 232, Size: 131, Regions: 3, RegionSectors: 1, LogSectors: 4, Depth: 6, Memory: 9}
	wide  = plan.Plan{Sectors: 1000, Size: 512, Regions: 3, RegionSectors: 2, LogSectors: 4, Depth: 8, Memory: 256}
)

// plans are all of them; slotsOf tells how many entries their buckets have.
var (
	plans   = []plan.Plan{deep, flat, tight, odd, wide}
	slotsOf = map[plan.Plan]int{deep: 3, flat: 3, tight: 3, odd: 5, wide: 24}
)

// nowhere are references of no page of deep's, or of none that may be.
var nowhere = []super.Ref{
	{Page: -1, Stamp: 1},
	{Page: 108, Stamp: 1},
	{Page: math.MaxInt, Stamp: 1},
	{Page: math.MinInt, Stamp: math.MinInt},
	{Page: 107, Stamp: 1},
	{Page: 0, Stamp: -1},
	{Page: 0, Stamp: 0},
	{Page: 0, Stamp: math.MaxInt},
}

// need fails the test at once, if an error is another one.
func need(t *testing.T, name string, got, want api.Errno) {
	t.Helper()
	if got != want {
		t.Fatalf("%s: error %d, want %d", name, got, want)
	}
}

// number tells one that begins with some bits, and ends with others.
func number(begin string, end uint64) uint64 {
	n := end
	for at, bit := range begin {
		if bit == '1' {
			n += 1 << (63 - at)
		}
	}
	return n
}

// entry tells one of a number, in a region.
func entry(hash uint64, q int) bucket.Entry {
	return bucket.Entry{Hash: hash, Loc: region.Loc{Region: q, At: q % 50, Size: int(hash%100) + 1}}
}

// entries tells some whose numbers begin so, in the region 5.
func entries(begins ...string) []bucket.Entry {
	var list []bucket.Entry
	for n, begin := range begins {
		list = append(list, entry(number(begin, uint64(n+1)), 5))
	}
	return list
}

// varied tells some that make of deep an index of all eight slots, in two pages of
// references, and of buckets with the prefixes 000, 001, 01, 10 and 11.
func varied() []bucket.Entry {
	return entries("000", "000", "001", "001", "01", "100", "101", "110", "110")
}

// ordered tells entries by their numbers.
func ordered(list []bucket.Entry) []bucket.Entry {
	return slices.SortedFunc(slices.Values(list), func(x, y bucket.Entry) int { return cmp.Compare(x.Hash, y.Hash) })
}

// lowest tells a number of so many bytes, the lowest first.
func lowest(n uint64, width int) []byte {
	var b []byte
	for range width {
		b = append(b, byte(n))
		n /= 256
	}
	return b
}

// load tells a bucket's, as the document words it.
func load(b bucket.Bucket) []byte {
	row := []byte{byte(b.Depth), byte(len(b.Entries))}
	row = append(row, lowest(uint64(b.Prefix), 8)...)
	for _, x := range b.Entries {
		row = append(row, lowest(x.Hash, 8)...)
		row = append(row, lowest(uint64(x.Loc.Region), 8)...)
		row = append(row, lowest(uint64(x.Loc.At), 2)...)
		row = append(row, lowest(uint64(x.Loc.Size), 2)...)
	}
	return row
}

// reference tells one's bytes, as the document words it.
func reference(r super.Ref) []byte {
	return append(lowest(uint64(r.Page), 4), lowest(uint64(r.Stamp), 8)...)
}

// stored tells a store of a new device.
func stored(t *testing.T, p plan.Plan) (*flash.Device, *store.Store) {
	t.Helper()
	d := flash.New(p.Sectors, p.Size)
	s, e := store.Format(d, p)
	need(t, "store.Format", e, api.OK)
	return d, s
}

// again tells a store that is opened behind a generation.
func again(t *testing.T, d *flash.Device, p plan.Plan, gen int) *store.Store {
	t.Helper()
	s, e := store.Open(d, p, gen)
	need(t, "store.Open", e, api.OK)
	return s
}

// down lets a device go down.
func down(d *flash.Device) {
	d.Arm(1)
	d.Sync()
}

// kept flushes, syncs and commits.
func kept(t *testing.T, d *flash.Device, s *store.Store) {
	t.Helper()
	need(t, "Flush", s.Flush(), api.OK)
	need(t, "Sync", d.Sync(), api.OK)
	s.Commit()
}

// fill takes pages of a store till so many are left.
func fill(t *testing.T, s *store.Store, left int) {
	t.Helper()
	x, _ := plan.Fit(s.Plan())
	for range x.Pages - len(s.Parts().Taken) - left {
		_, e := s.New(nil)
		need(t, "New", e, api.OK)
	}
}

// made tells an empty index.
func made(t *testing.T, s *store.Store) *Index {
	t.Helper()
	x, e := Format(s)
	need(t, "Format", e, api.OK)
	return x
}

// holding tells an index of a new store into which some entries were put, none of
// which was lost, and what it should be.
func holding(t *testing.T, p plan.Plan, list ...bucket.Entry) (*flash.Device, *store.Store, *Index, *worded) {
	t.Helper()
	d, s := stored(t, p)
	x, w := made(t, s), newWorded(p)
	for _, y := range list {
		puts(t, x, w, y, 0, false)
	}
	w.is(t, "holding", x, s)
	return d, s, x, w
}

// puts puts an entry into an index, and into what it should be.
func puts(t *testing.T, x *Index, w *worded, y bucket.Entry, oldest int, lost bool) {
	t.Helper()
	if got, e := x.Put(y, oldest); e != api.OK || got != lost || w.put(y, oldest) != lost {
		t.Fatalf("Put(%+v, %d): %v, error %d, want %v", y, oldest, got, e, lost)
	}
}

// drops drops a number from both.
func drops(t *testing.T, x *Index, w *worded, hash uint64, was bool) {
	t.Helper()
	if got, e := x.Drop(hash); e != api.OK || got != was || w.drop(hash) != was {
		t.Fatalf("Drop(%x): %v, error %d, want %v", hash, got, e, was)
	}
}

// part is a bucket of an index as the document words it, and worded such an index.
type part struct {
	depth, prefix int
	locs          map[uint64]region.Loc
}
type worded struct {
	most, room    int // the plan's depth, a bucket's entries
	depth, splits int
	slots         []*part
}

// newWorded tells an empty one.
func newWorded(p plan.Plan) *worded {
	return &worded{most: p.Depth, room: slotsOf[p], slots: []*part{{locs: map[uint64]region.Loc{}}}}
}

// copy tells one like it, as if it was opened: no bucket was split since.
func (w *worded) copy() *worded {
	c := &worded{most: w.most, room: w.room, depth: w.depth}
	twins := map[*part]*part{}
	for _, b := range w.slots {
		if twins[b] == nil {
			twins[b] = &part{b.depth, b.prefix, maps.Clone(b.locs)}
		}
		c.slots = append(c.slots, twins[b])
	}
	return c
}

// of tells a number's bucket.
func (w *worded) of(hash uint64) *part { return w.slots[hash>>(64-w.depth)] }

// drop drops a number.
func (w *worded) drop(hash uint64) bool {
	_, was := w.of(hash).locs[hash]
	delete(w.of(hash).locs, hash)
	return was
}

// put puts an entry.
func (w *worded) put(y bucket.Entry, oldest int) (lost bool) {
	for {
		b := w.of(y.Hash)
		if _, there := b.locs[y.Hash]; there || len(b.locs) < w.room {
			b.locs[y.Hash] = y.Loc
			return false
		}
		maps.DeleteFunc(b.locs, func(_ uint64, l region.Loc) bool { return l.Region < oldest })
		switch {
		case len(b.locs) < w.room:
			b.locs[y.Hash] = y.Loc
			return false
		case b.depth == w.most:
			delete(b.locs, b.eldest())
			b.locs[y.Hash] = y.Loc
			return true
		}
		if w.depth == b.depth {
			w.double()
		}
		w.split(b)
	}
}

// double doubles the slots.
func (w *worded) double() {
	var twice []*part
	for _, b := range w.slots {
		twice = append(twice, b, b)
	}
	w.slots = twice
	w.depth++
}

// split parts a bucket: the half with 0 stays it.
func (w *worded) split(b *part) {
	one := &part{b.depth + 1, 2*b.prefix + 1, map[uint64]region.Loc{}}
	b.depth, b.prefix = b.depth+1, 2*b.prefix
	for hash, l := range b.locs {
		if hash>>(64-b.depth)%2 == 1 {
			one.locs[hash] = l
			delete(b.locs, hash)
		}
	}
	for n := range w.slots {
		if n>>(w.depth-b.depth) == one.prefix {
			w.slots[n] = one
		}
	}
	w.splits++
}

// eldest tells the number of the entry that is lost first.
func (b *part) eldest() uint64 {
	return slices.MinFunc(slices.Collect(maps.Keys(b.locs)), func(x, y uint64) int {
		p, q := b.locs[x], b.locs[y]
		return cmp.Or(cmp.Compare(p.Region, q.Region), cmp.Compare(p.At, q.At), cmp.Compare(x, y))
	})
}

// bucket tells it as one of layer 14.
func (b *part) bucket() bucket.Bucket {
	c := bucket.Bucket{Depth: b.depth, Prefix: b.prefix}
	for hash, l := range b.locs {
		c.Entries = append(c.Entries, bucket.Entry{Hash: hash, Loc: l})
	}
	c.Entries = ordered(c.Entries)
	return c
}

// same tells whether two buckets are alike.
func same(x, y bucket.Bucket) bool {
	return x.Depth == y.Depth && x.Prefix == y.Prefix && slices.Equal(x.Entries, y.Entries)
}

// is holds an index to what it should be: its slots, its pages, what these have, and
// that each number is found.
func (w *worded) is(t *testing.T, name string, x *Index, s *store.Store) {
	t.Helper()
	if x.Depth() != w.depth || x.Splits() != w.splits {
		t.Fatalf("%s: depth %d, %d splits, want %d, %d", name, x.Depth(), x.Splits(), w.depth, w.splits)
	}
	list, e := x.Slots()
	if e != api.OK || len(list) != 1<<w.depth {
		t.Fatalf("%s: Slots: %d of them, error %d", name, len(list), e)
	}
	refs, parts := map[*part]super.Ref{}, map[super.Ref]*part{}
	for n, at := range list {
		b := w.slots[n]
		if !same(at.Bucket, b.bucket()) {
			t.Fatalf("%s: slot %d: %+v, want %+v", name, n, at.Bucket, b.bucket())
		}
		if r, seen := refs[b]; seen && r != at.Ref || parts[at.Ref] != nil && parts[at.Ref] != b {
			t.Fatalf("%s: slot %d has page %v", name, n, at.Ref)
		}
		refs[b], parts[at.Ref] = at.Ref, b
		if row, e := s.Read(at.Ref); e != api.OK || !bytes.Equal(row, load(at.Bucket)) {
			t.Fatalf("%s: page %v is %d, error %d", name, at.Ref, row, e)
		}
		if n > 0 && w.slots[n-1] == b {
			continue
		}
		for hash, l := range b.locs {
			finds(t, name, x, hash, l, true)
			finds(t, name, x, hash^1<<20, region.Loc{}, false)
		}
	}
	w.stands(t, name, x, s, list)
}

// stands holds an index to where it stands.
func (w *worded) stands(t *testing.T, name string, x *Index, s *store.Store, list []Slot) {
	t.Helper()
	table, e := dir.Open(s, x.Depth(), x.Root())
	need(t, name+": dir.Open", e, api.OK)
	refs, e := table.All()
	if e != api.OK || !slices.EqualFunc(list, refs, func(at Slot, r super.Ref) bool { return at.Ref == r }) {
		t.Fatalf("%s: the directory has %v, error %d", name, refs, e)
	}
	own, e := table.Pages()
	need(t, name+": dir.Pages", e, api.OK)
	var want []int
	for _, r := range slices.Concat(own, refs) {
		want = append(want, r.Page)
	}
	slices.Sort(want)
	pages, e := x.Pages()
	if e != api.OK || !slices.Equal(pages, slices.Compact(want)) {
		t.Fatalf("%s: Pages: %d, error %d, want %d", name, pages, e, want)
	}
}

// finds holds Find to what it should tell of a number.
func finds(t *testing.T, name string, x *Index, hash uint64, want region.Loc, is bool) {
	t.Helper()
	if l, got, e := x.Find(hash); e != api.OK || got != is || l != want {
		t.Fatalf("%s: Find(%x): %+v, %v, error %d, want %+v, %v", name, hash, l, got, e, want, is)
	}
}

// parted holds a store, all of whose pages are an index's, to that: they, the dying
// and the dead ones part what is taken; none is lost, and none is left over.
func parted(t *testing.T, name string, x *Index, s *store.Store) {
	t.Helper()
	pages, e := x.Pages()
	parts := s.Parts()
	all := slices.Concat(pages, parts.Dying, parts.Dead)
	slices.Sort(all)
	if e != api.OK || !slices.Equal(all, parts.Taken) {
		t.Fatalf("%s: %+v, pages %d, error %d", name, parts, pages, e)
	}
	for _, n := range parts.Fresh {
		if !slices.Contains(pages, n) {
			t.Fatalf("%s: page %d is fresh, but none of %d", name, n, pages)
		}
	}
	if s.Held() > s.Plan().Memory {
		t.Fatalf("%s: %d pages are held", name, s.Held())
	}
}

// unchanged holds a store's parts to what they were.
func unchanged(t *testing.T, name string, s *store.Store, was store.Parts) {
	t.Helper()
	if !reflect.DeepEqual(s.Parts(), was) {
		t.Fatalf("%s: %+v, was %+v", name, s.Parts(), was)
	}
}

// refused holds Open to an error, beside which there is no index, and no page of
// the store is taken.
func refused(t *testing.T, name string, s *store.Store, depth int, root super.Ref, want api.Errno) {
	t.Helper()
	was := s.Parts()
	if x, e := Open(s, depth, root); e != want || x != nil {
		t.Fatalf("%s: Open(%d, %v): %v, error %d, want %d", name, depth, root, x, e, want)
	}
	unchanged(t, name, s, was)
}

// byHand tells the root of a directory of a depth, each of whose slots has the page
// that it is told.
func byHand(t *testing.T, s *store.Store, depth int, refs []super.Ref) super.Ref {
	t.Helper()
	table, e := dir.Make(s, refs[0])
	need(t, "dir.Make", e, api.OK)
	for range depth {
		need(t, "Double", table.Double(), api.OK)
	}
	for n, r := range refs {
		need(t, "Set", table.Set([]int{n}, r), api.OK)
	}
	return table.Root()
}

// page tells a new page of a bucket without entries.
func page(t *testing.T, s *store.Store, depth, prefix int) super.Ref {
	t.Helper()
	r, e := s.New(load(bucket.Bucket{Depth: depth, Prefix: prefix}))
	need(t, "New", e, api.OK)
	return r
}

// P17.1: an index that is formatted has the depth 0, one slot, and in that an empty
// bucket; three pages, which are fresh; no bucket was split.
func TestFormat(t *testing.T) {
	for _, p := range plans {
		_, s := stored(t, p)
		for range 2 {
			before := len(s.Parts().Taken)
			x := made(t, s)
			newWorded(p).is(t, "formatted", x, s)
			if pages, e := x.Pages(); e != api.OK || len(pages) != 3 {
				t.Errorf("Pages: %d, error %d", pages, e)
			}
			if n := s.Parts(); len(n.Taken) != before+3 || len(n.Fresh) != before+3 {
				t.Errorf("%+v", n)
			}
		}
	}
}

// P17.1: the store's ErrFull, where there is no room for three pages; nothing is
// changed then.
func TestFormatFull(t *testing.T) {
	for left := range 5 {
		_, was := stored(t, flat)
		fill(t, was, left)
		_, s := stored(t, flat)
		fill(t, s, left)
		x, e := Format(s)
		if left >= 3 {
			need(t, "room", e, api.OK)
			newWorded(flat).is(t, "room", x, s)
			continue
		}
		if e != api.ErrFull || x != nil {
			t.Errorf("%d left: %v, error %d", left, x, e)
		}
		if !reflect.DeepEqual(s, was) {
			t.Errorf("%d left: the store was changed: %+v, was %+v", left, s.Parts(), was.Parts())
		}
	}
}

// P17.1: ErrArg of no store; the device's error, where a page goes out of memory for
// one of an index's, whichever of them it is: OK is told only of what was made.
func TestFormatWrong(t *testing.T) {
	if x, e := Format(nil); e != api.ErrArg || x != nil {
		t.Errorf("%v, error %d", x, e)
	}
	seen := map[api.Errno]int{}
	for turn := range 12 {
		d, s := stored(t, deep)
		oneDirty(t, d, s, turn)
		down(d)
		x, e := Format(s)
		seen[e]++
		d.Crash(nil)
		switch {
		case e == api.OK:
			newWorded(deep).is(t, "formatted", x, s)
		case x != nil:
			t.Errorf("an index beside the error %d", e)
		}
	}
	if len(seen) != 2 || seen[api.OK] == 0 || seen[api.ErrDown] < 3 {
		t.Errorf("errors %v", seen)
	}
}

// P17.1: an index that is opened has the same slots; just its pages are marked, none
// of which is fresh, dying or dead; no bucket was split since.
func TestOpen(t *testing.T) {
	for _, p := range plans {
		for seed := range uint64(6) {
			random := rand.New(rand.NewPCG(seed, 1))
			d, s := stored(t, p)
			x, w := made(t, s), newWorded(p)
			for q := range 40 * int(seed) {
				y := entry(random.Uint64(), q)
				lost, e := x.Put(y, 0)
				if e != api.OK || lost != w.put(y, 0) {
					t.Fatalf("Put: %v, error %d", lost, e)
				}
			}
			kept(t, d, s)
			o := again(t, d, p, s.Gen()-1)
			y, e := Open(o, x.Depth(), x.Root())
			need(t, "Open", e, api.OK)
			w.copy().is(t, "opened", y, o)
			if y.Root() != x.Root() {
				t.Errorf("root %v, want %v", y.Root(), x.Root())
			}
			pages, _ := x.Pages()
			n := o.Parts()
			if !slices.Equal(n.Taken, pages) || len(n.Fresh)+len(n.Dying)+len(n.Dead) != 0 {
				t.Errorf("%+v, want %d", n, pages)
			}
		}
	}
}

// P17.1: ErrArg of no store, and of a depth that is not from 0 to the plan's, ahead
// of all else.
func TestOpenArg(t *testing.T) {
	for _, p := range plans {
		d, s := stored(t, p)
		root := made(t, s).Root()
		kept(t, d, s)
		o := again(t, d, p, 1)
		for _, depth := range []int{-1, p.Depth + 1, 9, 63, 64, math.MaxInt, math.MinInt} {
			refused(t, "depth", o, depth, root, api.ErrArg)
			refused(t, "depth and root", o, depth, super.Ref{Page: -1}, api.ErrArg)
		}
		down(d)
		refused(t, "depth, and down", o, -1, root, api.ErrArg)
		refused(t, "down", o, 0, root, api.ErrDown)
		if x, e := Open(nil, 0, root); e != api.ErrArg || x != nil {
			t.Errorf("no store: %v, error %d", x, e)
		}
	}
}

// P17.1: ErrForm of a root that there is not, or that is none; and of each other
// depth than the root's.
func TestOpenRoot(t *testing.T) {
	d, s, x, _ := holding(t, deep, varied()...)
	kept(t, d, s)
	slots, _ := x.Slots()
	table, _ := dir.Open(s, x.Depth(), x.Root())
	own, _ := table.Pages()
	others := slices.Concat(nowhere, own[1:], []super.Ref{slots[0].Ref, slots[7].Ref})
	others = append(others, super.Ref{Page: x.Root().Page, Stamp: 2}, super.Ref{Page: x.Root().Page})
	o := again(t, d, deep, 1)
	for _, root := range others {
		for depth := range deep.Depth + 1 {
			refused(t, "root", o, depth, root, api.ErrForm)
		}
	}
	for begin := range deep.Depth + 1 {
		d, s := stored(t, deep)
		x := made(t, s)
		for n := range uint64(3 * begin) {
			x.Put(entry(n<<61|n, 5), 0)
		}
		kept(t, d, s)
		for depth := range deep.Depth + 1 {
			if depth != x.Depth() {
				refused(t, "depth", again(t, d, deep, 1), depth, x.Root(), api.ErrForm)
			}
		}
		_, e := Open(again(t, d, deep, 1), x.Depth(), x.Root())
		need(t, "Open", e, api.OK)
	}
}

// P17.1: ErrForm, if any of its pages is rotten; and none is marked then.
func TestOpenRotten(t *testing.T) {
	d, s, x, w := holding(t, deep, varied()...)
	kept(t, d, s)
	pages, e := x.Pages()
	if e != api.OK || len(pages) != 1+2+5 {
		t.Fatalf("%d, error %d", pages, e)
	}
	for _, n := range pages {
		for _, at := range []int{0, 40, 95} {
			d.Rot(12+n, at, 4)
			refused(t, fmt.Sprint("page ", n), again(t, d, deep, 1), x.Depth(), x.Root(), api.ErrForm)
			d.Rot(12+n, at, 4)
		}
	}
	o := again(t, d, deep, 1)
	y, e := Open(o, x.Depth(), x.Root())
	need(t, "Open", e, api.OK)
	w.copy().is(t, "as it was", y, o)
}

// P17.1: ErrForm, if a slot's page is none of a bucket: one that there is not, one
// that does not stand there with that stamp, one with another load.
func TestOpenNoBucket(t *testing.T) {
	wrong := [][]byte{
		nil,
		{0},
		load(bucket.Bucket{})[1:],
		append(load(bucket.Bucket{}), 0),
		load(bucket.Bucket{Depth: 9}),
		load(bucket.Bucket{Depth: 1, Prefix: 2}),
		load(bucket.Bucket{Depth: 1, Entries: entries("1")}),
		load(bucket.Bucket{Entries: entries("1", "0")}),
		load(bucket.Bucket{Entries: []bucket.Entry{{Loc: region.Loc{Region: 1<<40 + 1}}}}),
		append([]byte{0, 4}, make([]byte, 8)...),
	}
	for slot := range 4 {
		for n := range len(nowhere) + len(wrong) {
			d, s := stored(t, deep)
			refs := []super.Ref{page(t, s, 2, 0), page(t, s, 2, 1), page(t, s, 2, 2), page(t, s, 2, 3)}
			if n < len(wrong) {
				refs[slot], _ = s.New(wrong[n])
			} else if refs[slot] = nowhere[n-len(wrong)]; refs[slot].Page < 0 || refs[slot].Page >= 1<<31 || refs[slot].Stamp < 0 {
				continue // such a one can't be set
			}
			root := byHand(t, s, 2, refs)
			kept(t, d, s)
			refused(t, fmt.Sprint("no bucket ", n), again(t, d, deep, 1), 2, root, api.ErrForm)
		}
	}
}

// P17.1: which shapes are right, and which are not: ErrForm.
func TestOpenShape(t *testing.T) {
	type of struct{ depth, prefix int }
	for _, y := range []struct {
		name    string
		buckets []of
		slots   []int // of each slot which bucket it has
		right   bool
	}{
		{"one", []of{{0, 0}}, []int{0}, true},
		{"one of two slots", []of{{0, 0}}, []int{0, 0}, true},
		{"one of eight slots", []of{{0, 0}}, []int{0, 0, 0, 0, 0, 0, 0, 0}, true},
		{"two", []of{{1, 0}, {1, 1}}, []int{0, 1}, true},
		{"two, the second one first", []of{{1, 1}, {1, 0}}, []int{1, 0}, true},
		{"two of four slots", []of{{1, 0}, {1, 1}}, []int{0, 0, 1, 1}, true},
		{"three", []of{{1, 0}, {2, 2}, {2, 3}}, []int{0, 0, 1, 2}, true},
		{"three, the other way", []of{{2, 0}, {2, 1}, {1, 1}}, []int{0, 1, 2, 2}, true},
		{"four", []of{{2, 0}, {2, 1}, {2, 2}, {2, 3}}, []int{0, 1, 2, 3}, true},
		{"of all depths", []of{{3, 0}, {3, 1}, {2, 1}, {1, 1}}, []int{0, 1, 2, 2, 3, 3, 3, 3}, true},

		{"deeper than the directory", []of{{1, 0}}, []int{0}, false},
		{"one deeper", []of{{1, 0}, {2, 2}}, []int{0, 1}, false},
		{"another prefix", []of{{1, 1}}, []int{0}, false},
		{"changed for one another", []of{{1, 1}, {1, 0}}, []int{0, 1}, false},
		{"changed for one another, twice each", []of{{1, 1}, {1, 0}}, []int{0, 0, 1, 1}, false},
		{"two of all", []of{{0, 0}, {0, 0}}, []int{0, 1}, false},
		{"two of all, by turns", []of{{0, 0}, {0, 0}}, []int{0, 1, 1, 0}, false},
		{"two of one prefix", []of{{1, 0}, {1, 0}, {1, 1}}, []int{0, 1, 2, 2}, false},
		{"two of the last prefix", []of{{1, 0}, {1, 1}, {1, 1}}, []int{0, 0, 1, 2}, false},
		{"in one slot more", []of{{1, 0}, {2, 3}}, []int{0, 0, 0, 1}, false},
		{"in one slot less", []of{{1, 0}, {2, 1}, {1, 1}}, []int{0, 1, 2, 2}, false},
		{"in one slot less, at the end", []of{{1, 0}, {1, 1}, {2, 3}}, []int{0, 0, 1, 2}, false},
		{"in all slots", []of{{1, 0}}, []int{0, 0}, false},
		{"in all slots, the other one", []of{{1, 1}}, []int{0, 0}, false},
		{"in another row, too", []of{{2, 0}, {2, 1}, {2, 2}}, []int{0, 1, 2, 0}, false},
		{"in all but one", []of{{0, 0}, {2, 2}}, []int{0, 0, 1, 0}, false},
		{"one further on", []of{{2, 0}, {1, 0}, {2, 3}}, []int{0, 1, 1, 2}, false},
		{"too deep by one", []of{{2, 0}, {2, 1}}, []int{0, 0, 1, 1}, false},
		{"too shallow by one", []of{{1, 0}, {1, 0}, {1, 1}, {1, 1}}, []int{0, 1, 2, 3}, false},
	} {
		d, s := stored(t, deep)
		var refs []super.Ref
		for _, b := range y.buckets {
			refs = append(refs, page(t, s, b.depth, b.prefix))
		}
		depth, slots := 0, []super.Ref{}
		for _, n := range y.slots {
			slots = append(slots, refs[n])
		}
		for 1<<depth < len(slots) {
			depth++
		}
		root := byHand(t, s, depth, slots)
		kept(t, d, s)
		o := again(t, d, deep, 1)
		if !y.right {
			refused(t, y.name, o, depth, root, api.ErrForm)
			continue
		}
		x, e := Open(o, depth, root)
		need(t, y.name, e, api.OK)
		if pages, _ := x.Pages(); !slices.Equal(o.Parts().Taken, pages) || x.Splits() != 0 {
			t.Errorf("%s: %+v, pages %d", y.name, o.Parts(), pages)
		}
	}
}

// P17.1: ErrForm, if a page stands there twice, though the shape is right; or if one
// is taken already, whichever it is.
func TestOpenTaken(t *testing.T) {
	d, s := stored(t, tight)
	b := page(t, s, 0, 0)
	full, _ := s.New(bytes.Repeat(reference(b), 6))
	other, _ := s.New(bytes.Repeat(reference(b), 6))
	last, _ := s.New(bytes.Repeat(reference(b), 4))
	twice, _ := s.New(slices.Concat(reference(full), reference(full), reference(last)))
	once, _ := s.New(slices.Concat(reference(full), reference(other), reference(last)))
	kept(t, d, s)
	refused(t, "twice", again(t, d, tight, 1), 4, twice, api.ErrForm)
	_, e := Open(again(t, d, tight, 1), 4, once)
	need(t, "once", e, api.OK)
	for _, r := range []super.Ref{b, full, other, last, once} {
		for _, dead := range []bool{false, true} {
			o := again(t, d, tight, 1)
			if dead {
				o.Mourn([]int{r.Page})
			} else {
				need(t, "Mark", o.Mark(r), api.OK)
			}
			refused(t, "taken", o, 4, once, api.ErrForm)
		}
	}
	o := again(t, d, tight, 1)
	_, e = Open(o, 4, once)
	need(t, "Open", e, api.OK)
	refused(t, "opened already", o, 4, once, api.ErrForm)
}

// P17.1, P17.2: the device's error counts ahead of a page that is none, wherever it
// is told; the store's other errors ahead of a page that is no bucket.
func TestDeviceFirst(t *testing.T) {
	gone := super.Ref{Page: 100, Stamp: 1}
	far := super.Ref{Page: 1000, Stamp: 1}
	for _, y := range []struct {
		name  string
		wrong func(s *store.Store) super.Ref
		up    api.Errno // what Slots tells while the device is not down
	}{
		{"no bucket", func(s *store.Store) super.Ref { r, _ := s.New([]byte{7}); return r }, api.ErrForm},
		{"not there", func(s *store.Store) super.Ref { return far }, api.ErrRange},
		{"not with that stamp", func(s *store.Store) super.Ref { return gone }, api.ErrForm},
	} {
		for turn := range 2 {
			d, s := stored(t, deep)
			bad, good := y.wrong(s), page(t, s, 1, 1-turn)
			refs := []super.Ref{bad, good}
			if turn == 1 {
				refs = []super.Ref{good, bad}
			}
			root := byHand(t, s, 1, refs)
			kept(t, d, s)
			o := again(t, d, deep, 1)
			table, _ := dir.Open(o, 1, root)
			table.All()
			o.Read(bad)
			if y.name == "not with that stamp" { // in memory then, with its own stamp
				r, _ := o.New(nil)
				for r.Page != gone.Page {
					r, _ = o.New(nil)
				}
				table.All()
			}
			refused(t, y.name, o, 1, root, api.ErrForm)
			x := &Index{s: o, table: table, slots: 3}
			if _, e := x.Slots(); e != y.up {
				t.Errorf("%s: Slots: error %d, want %d", y.name, e, y.up)
			}
			o = again(t, d, deep, 1)
			table, _ = dir.Open(o, 1, root)
			table.All()
			o.Read(bad)
			down(d)
			refused(t, y.name+", and down", o, 1, root, api.ErrDown)
			x = &Index{s: o, table: table, slots: 3}
			if l, e := x.Slots(); e != api.ErrDown || len(l) != 0 {
				t.Errorf("%s, and down: Slots: %v, error %d", y.name, l, e)
			}
		}
	}
}

// P17.1, P17.2: of nil depth, root and splits are 0, and all else tells ErrArg.
func TestNil(t *testing.T) {
	var x *Index
	if x.Depth() != 0 || x.Root() != (super.Ref{}) || x.Splits() != 0 {
		t.Error("not 0")
	}
	if l, is, e := x.Find(1); l != (region.Loc{}) || is || e != api.ErrArg {
		t.Errorf("Find: %v, %v, error %d", l, is, e)
	}
	for _, y := range []bucket.Entry{entry(1, 1), {Loc: region.Loc{Region: -1}}} {
		if lost, e := x.Put(y, 0); lost || e != api.ErrArg {
			t.Errorf("Put: %v, error %d", lost, e)
		}
	}
	if was, e := x.Drop(1); was || e != api.ErrArg {
		t.Errorf("Drop: %v, error %d", was, e)
	}
	if l, e := x.Slots(); len(l) != 0 || e != api.ErrArg {
		t.Errorf("Slots: %v, error %d", l, e)
	}
	if l, e := x.Pages(); len(l) != 0 || e != api.ErrArg {
		t.Errorf("Pages: %v, error %d", l, e)
	}
}

// P17.2: the document's example: of three slots, four entries, whose numbers begin
// with 0, 0, 1, 1: depth 1, one split.
func TestExample(t *testing.T) {
	_, _, x, _ := holding(t, deep, entries("0", "0", "1", "1")...)
	if x.Depth() != 1 || x.Splits() != 1 {
		t.Errorf("depth %d, %d splits", x.Depth(), x.Splits())
	}
}

// P17.2: what is no entry is not put: ErrForm, ahead of the store's error; and what
// just is one.
func TestPutNoEntry(t *testing.T) {
	d, s, x, w := holding(t, deep, entries("0", "1")...)
	was := s.Parts()
	wrong := []region.Loc{
		{Region: -1},
		{Region: 1<<40 + 1},
		{Region: math.MinInt},
		{Region: math.MaxInt},
		{At: -1},
		{At: 65536},
		{At: math.MaxInt},
		{Size: -1},
		{Size: 65536},
		{Size: math.MinInt},
	}
	for _, hash := range []uint64{0, number("1", 2), math.MaxUint64} {
		for _, l := range wrong {
			if lost, e := x.Put(bucket.Entry{Hash: hash, Loc: l}, 0); lost || e != api.ErrForm {
				t.Errorf("%+v: %v, error %d", l, lost, e)
			}
		}
	}
	unchanged(t, "no entry", s, was)
	w.is(t, "no entry", x, s)
	for _, y := range []bucket.Entry{
		{},
		{Hash: math.MaxUint64, Loc: region.Loc{Region: 1 << 40, At: 65535, Size: 65535}},
		{Hash: 1 << 63},
		{Hash: 1<<63 - 1, Loc: region.Loc{Region: 1}},
	} {
		puts(t, x, w, y, 0, false)
		w.is(t, "just one", x, s)
	}
	for _, oldest := range []int{math.MinInt, -1, 1 << 40, math.MaxInt} {
		puts(t, x, w, entry(1<<63, 7), oldest, false)
	}
	w.is(t, "any oldest", x, s)
	down(d)
	if _, e := x.Put(bucket.Entry{Loc: region.Loc{At: -1}}, 0); e != api.ErrForm {
		t.Errorf("down: error %d", e)
	}
}

// P17.2: what is put at a number that stands there takes its place, in a full
// bucket, too, whatever is stale there, and nothing else is changed.
func TestPutThere(t *testing.T) {
	for _, p := range plans {
		var list []bucket.Entry
		for n := range uint64(slotsOf[p]) {
			list = append(list, entry(number([]string{"0", "1"}[n%2], n), 5))
		}
		_, s, x, w := holding(t, p, list...)
		for _, y := range list {
			puts(t, x, w, entry(y.Hash, 9), 7, false)
			w.is(t, "there", x, s)
			finds(t, "there", x, y.Hash, entry(y.Hash, 9).Loc, true)
			puts(t, x, w, entry(y.Hash, 3), 7, false)
			w.is(t, "there, stale itself", x, s)
		}
		if x.Splits() != 0 || x.Depth() != 0 {
			t.Errorf("%d splits, depth %d", x.Splits(), x.Depth())
		}
	}
}

// P17.2: as long as there is room nothing that is stale leaves a bucket; where there
// is none, all of it does, and the bucket is not split.
func TestPutStale(t *testing.T) {
	for stale := range 4 {
		_, s, x, w := holding(t, deep)
		for n := range 3 {
			q := 20
			if n < stale {
				q = 19
			}
			puts(t, x, w, entry(number([]string{"0", "10", "11"}[n], 1), q), 20, false)
			if l, _ := x.Slots(); len(l[0].Bucket.Entries) != n+1 {
				t.Fatalf("%d stale: %+v", stale, l)
			}
		}
		puts(t, x, w, entry(number("01", 7), 30), 20, false)
		w.is(t, "stale", x, s)
		if splits := x.Splits(); (splits == 0) != (stale > 0) {
			t.Errorf("%d stale: %d splits", stale, splits)
		}
		if l, _ := x.Slots(); stale > 0 && len(l[0].Bucket.Entries) != 4-stale {
			t.Errorf("%d stale: %+v", stale, l)
		}
	}
}

// P17.2: in a full bucket of the plan's depth, none of whose entries is stale, the
// eldest is lost: of the least region, of the same of the least place, of the same
// the first; the one that is put never is.
func TestPutLost(t *testing.T) {
	at := func(end uint64, q, place int) bucket.Entry {
		return bucket.Entry{Hash: number("0", end), Loc: region.Loc{Region: q, At: place}}
	}
	for _, p := range []plan.Plan{flat, deep, tight} {
		for _, y := range []struct {
			list []bucket.Entry
			lost uint64
		}{
			{[]bucket.Entry{at(1, 5, 9), at(2, 6, 9), at(3, 7, 9)}, 1},
			{[]bucket.Entry{at(1, 6, 9), at(2, 5, 9), at(3, 7, 9)}, 2},
			{[]bucket.Entry{at(1, 7, 1), at(2, 6, 2), at(3, 5, 3)}, 3},
			{[]bucket.Entry{at(1, 5, 9), at(2, 5, 8), at(3, 5, 9)}, 2},
			{[]bucket.Entry{at(1, 5, 9), at(2, 5, 9), at(3, 5, 9)}, 1},
			{[]bucket.Entry{at(1, 6, 9), at(2, 5, 9), at(3, 5, 9)}, 2},
		} {
			for _, q := range []int{4, 9} {
				_, s, x, w := holding(t, p, y.list...)
				puts(t, x, w, at(4, q, 0), 4, true)
				w.is(t, "lost", x, s)
				finds(t, "lost", x, number("0", y.lost), region.Loc{}, false)
				finds(t, "put", x, number("0", 4), region.Loc{Region: q}, true)
				if x.Depth() != p.Depth || x.Splits() != p.Depth {
					t.Errorf("depth %d, %d splits", x.Depth(), x.Splits())
				}
				puts(t, x, w, at(5, 20, 0), 20, false)
				w.is(t, "all stale", x, s)
			}
		}
	}
}

// P17.2: a bucket is split as often as it must be for an entry to go into it; the
// directory is doubled only where it is not deeper than the bucket.
func TestPutSplits(t *testing.T) {
	for _, y := range []struct {
		begins        []string
		depth, splits int
		buckets       string
	}{
		{[]string{"0", "0", "1"}, 0, 0, "-"},
		{[]string{"0", "0", "1", "0"}, 1, 1, "0 1"},
		{[]string{"00", "00", "01", "00"}, 2, 2, "00 01 1 1"},
		{[]string{"10", "10", "11", "11"}, 2, 2, "0 0 10 11"},
		{[]string{"110", "110", "111", "110"}, 3, 3, "0 0 0 0 10 10 110 111"},
		{[]string{"000", "000", "001", "000", "10", "10", "10", "11"}, 3, 4, "000 001 01 01 10 10 11 11"},
		{[]string{"000", "000", "001", "000", "11", "11", "11", "10", "11"}, 3, 5, "000 001 01 01 10 10 110 111"},
		{[]string{"000", "000", "001", "000", "010", "010", "011", "010"}, 3, 4, "000 001 010 011 1 1 1 1"},
	} {
		_, s, x, w := holding(t, deep)
		for n, begin := range y.begins {
			lost, e := x.Put(entry(number(begin, uint64(n)), 5), 0)
			if lost != w.put(entry(number(begin, uint64(n)), 5), 0) || e != api.OK {
				t.Fatalf("%v: error %d", y.begins, e)
			}
		}
		w.is(t, fmt.Sprint(y.begins), x, s)
		parted(t, fmt.Sprint(y.begins), x, s)
		list, _ := x.Slots()
		text := ""
		for _, at := range list {
			text += " " + prefix(at.Bucket)
		}
		if x.Depth() != y.depth || x.Splits() != y.splits || text[1:] != y.buckets {
			t.Errorf("%v: depth %d, %d splits, %s", y.begins, x.Depth(), x.Splits(), text)
		}
	}
}

// prefix tells a bucket's as bits.
func prefix(b bucket.Bucket) string {
	if b.Depth == 0 {
		return "-"
	}
	return fmt.Sprintf("%0*b", b.Depth, b.Prefix)
}

// P17.2: of a bucket that is split the half with 0 stays in the page, the other one
// gets a new one; behind a commit both are made anew, and the old page is dying.
func TestSplitPages(t *testing.T) {
	for _, commit := range []bool{false, true} {
		d, s, x, w := holding(t, deep, entries("0", "0", "1")...)
		if commit {
			kept(t, d, s)
		}
		before, _ := x.Slots()
		old, root := before[0].Ref, x.Root()
		puts(t, x, w, entry(number("1", 8), 5), 0, false)
		list, _ := x.Slots()
		if len(list) != 2 || (list[0].Ref == old) == commit || list[1].Ref == old || list[0].Ref == list[1].Ref {
			t.Fatalf("commit %v: %+v, was %v", commit, list, old)
		}
		parts := s.Parts()
		if slices.Contains(parts.Dying, old.Page) != commit || len(parts.Fresh) != 4 {
			t.Errorf("commit %v: %+v", commit, parts)
		}
		parted(t, "split", x, s)
		if commit {
			o := again(t, d, deep, 1)
			y, e := Open(o, 0, root)
			need(t, "Open", e, api.OK)
			if l, e := y.Slots(); e != api.OK || !slices.EqualFunc(l, before, sameSlot) {
				t.Errorf("%+v, error %d, was %+v", l, e, before)
			}
		}
	}
}

// sameSlot tells whether two slots are alike.
func sameSlot(x, y Slot) bool { return x.Ref == y.Ref && same(x.Bucket, y.Bucket) }

// P17.2: what is dropped is not found, and nothing else is changed; of what is not
// there nothing is written.
func TestDrop(t *testing.T) {
	for _, p := range plans {
		var list []bucket.Entry
		for n := range 8 {
			list = append(list, entry(uint64(n)<<61|uint64(n), 5))
		}
		if p == flat {
			list = list[:3]
		}
		d, s, x, w := holding(t, p, list...)
		kept(t, d, s)
		was := s.Parts()
		for _, y := range list {
			drops(t, x, w, y.Hash^1<<30, false)
			drops(t, x, w, ^y.Hash, false)
		}
		unchanged(t, "none there", s, was)
		depth, splits := x.Depth(), x.Splits()
		for _, y := range list {
			drops(t, x, w, y.Hash, true)
			w.is(t, "dropped", x, s)
			drops(t, x, w, y.Hash, false)
			finds(t, "dropped", x, y.Hash, region.Loc{}, false)
			parted(t, "dropped", x, s)
		}
		if x.Depth() != depth || x.Splits() != splits {
			t.Errorf("depth %d, %d splits", x.Depth(), x.Splits())
		}
		for _, y := range list {
			puts(t, x, w, y, 0, false)
		}
		w.is(t, "put again", x, s)
		if x.Depth() != depth || x.Splits() != splits {
			t.Errorf("depth %d, %d splits", x.Depth(), x.Splits())
		}
	}
}

// P17.2: what is changed is made anew behind a commit: the bucket's page, the page of
// references in which its slots stand, and the root; once more nothing is. What was
// there at the commit still is.
func TestChangeBehindCommit(t *testing.T) {
	list := varied()
	for _, y := range []struct {
		name   string
		change func(x *Index, w *worded)
		again  func(x *Index, w *worded)
		pages  int // that are made anew
	}{
		{
			"Put",
			func(x *Index, w *worded) { puts(t, x, w, entry(number("001", 90), 6), 0, false) },
			func(x *Index, w *worded) { puts(t, x, w, entry(number("001", 90), 7), 0, false) },
			3,
		},
		{
			"Put of what is there",
			func(x *Index, w *worded) { puts(t, x, w, entry(list[2].Hash, 6), 0, false) },
			func(x *Index, w *worded) { puts(t, x, w, entry(list[2].Hash, 7), 0, false) },
			3,
		},
		{
			"Put with a split",
			func(x *Index, w *worded) {
				puts(t, x, w, entry(number("110", 90), 6), 0, false)
				puts(t, x, w, entry(number("111", 91), 6), 0, false)
			},
			func(x *Index, w *worded) { puts(t, x, w, entry(number("111", 91), 7), 0, false) },
			4, // and one more bucket
		},
		{
			"Drop",
			func(x *Index, w *worded) { drops(t, x, w, list[4].Hash, true) },
			func(x *Index, w *worded) { puts(t, x, w, list[4], 0, false) },
			3,
		},
	} {
		d, s, x, w := holding(t, deep, list...)
		kept(t, d, s)
		root, then, more := x.Root(), w.copy(), len(s.Parts().Taken)
		y.change(x, w)
		w.is(t, y.name, x, s)
		parted(t, y.name, x, s)
		n := s.Parts()
		if len(n.Fresh) != y.pages || len(n.Dying) != 3 || len(n.Taken) != more+y.pages {
			t.Errorf("%s: %+v", y.name, n)
		}
		y.again(x, w)
		w.is(t, y.name+", again", x, s)
		unchanged(t, y.name, s, n)
		o := again(t, d, deep, 1)
		c, e := Open(o, then.depth, root)
		need(t, "Open", e, api.OK)
		then.is(t, y.name+": the commit", c, o)
	}
}

// spoilt tells an index like varied's, one of whose pages another load is written to
// while it is fresh; then there is a commit, so that no page is fresh.
func spoilt(t *testing.T, which func(x *Index, own []super.Ref) super.Ref, row []byte) (*flash.Device, *store.Store, *Index, *worded) {
	t.Helper()
	d, s, x, w := holding(t, deep, varied()...)
	table, _ := dir.Open(s, x.Depth(), x.Root())
	own, e := table.Pages()
	need(t, "Pages", e, api.OK)
	r := which(x, own)
	was, e := s.Write(r, row)
	need(t, "Write", e, api.OK)
	if was != r {
		t.Fatalf("page %v is %v now", r, was)
	}
	kept(t, d, s)
	return d, s, x, w
}

// form holds all calls that ask for a number to ErrForm, which changes nothing.
func form(t *testing.T, name string, s *store.Store, x *Index, hash uint64) {
	t.Helper()
	was, depth, root, splits := s.Parts(), x.Depth(), x.Root(), x.Splits()
	if l, is, e := x.Find(hash); l != (region.Loc{}) || is || e != api.ErrForm {
		t.Errorf("%s: Find(%x): %v, %v, error %d", name, hash, l, is, e)
	}
	if lost, e := x.Put(entry(hash, 8), 0); lost || e != api.ErrForm {
		t.Errorf("%s: Put(%x): %v, error %d", name, hash, lost, e)
	}
	if was, e := x.Drop(hash); was || e != api.ErrForm {
		t.Errorf("%s: Drop(%x): %v, error %d", name, hash, was, e)
	}
	unchanged(t, name, s, was)
	if x.Depth() != depth || x.Root() != root || x.Splits() != splits {
		t.Errorf("%s: depth %d, root %v, %d splits", name, x.Depth(), x.Root(), x.Splits())
	}
}

// P17.2: ErrForm of a number whose bucket's page is none of it: no bucket, one of
// other numbers, or one that is deeper than the directory. Other numbers are found,
// put and dropped.
func TestFormOfBucket(t *testing.T) {
	for name, row := range map[string][]byte{
		"no bucket":     {7},
		"another one":   load(bucket.Bucket{Depth: 2, Prefix: 3}),
		"the next one":  load(bucket.Bucket{Depth: 3, Prefix: 3}),
		"a deeper one":  load(bucket.Bucket{Depth: 4, Prefix: 4}),
		"one of others": load(bucket.Bucket{Depth: 1, Prefix: 1}),
	} {
		_, s, x, w := spoilt(t, func(x *Index, own []super.Ref) super.Ref {
			list, _ := x.Slots()
			return list[2].Ref // of the prefix 01
		}, row)
		for _, begin := range []string{"0100", "0101"} {
			form(t, name, s, x, number(begin, 1))
		}
		if l, e := x.Slots(); name == "no bucket" && (e != api.ErrForm || len(l) != 0) {
			t.Errorf("%s: Slots: %v, error %d", name, l, e)
		}
		if pages, e := x.Pages(); e != api.OK || len(pages) != 8 {
			t.Errorf("%s: Pages: %d, error %d", name, pages, e)
		}
		for _, y := range varied() {
			if y.Hash>>62 != 1 {
				finds(t, name, x, y.Hash, y.Loc, true)
				drops(t, x, w, y.Hash, true)
				puts(t, x, w, entry(y.Hash, 6), 0, false)
				finds(t, name, x, y.Hash, entry(y.Hash, 6).Loc, true)
			}
		}
	}
}

// P17.2: a bucket that is deeper than the directory is none, though the number
// begins like it.
func TestFormOfDeepBucket(t *testing.T) {
	d, s, x, _ := holding(t, deep, entries("0", "0", "1")...)
	list, _ := x.Slots()
	for _, b := range []bucket.Bucket{{Depth: 1, Prefix: 1}, {Depth: 8, Prefix: 255}} {
		s.Write(list[0].Ref, load(b))
		form(t, "fresh", s, x, math.MaxUint64)
	}
	kept(t, d, s)
	form(t, "deep", s, x, math.MaxUint64)
}

// P17.2: ErrForm of a number whose page of references is none; of the root, of each
// number. Slots and Pages tell it, too.
func TestFormOfDirectory(t *testing.T) {
	for which := range 3 {
		_, s, x, _ := spoilt(t, func(x *Index, own []super.Ref) super.Ref { return own[which] }, []byte{7})
		for _, y := range varied() {
			if second := y.Hash>>61 >= 6; which == 0 || second == (which == 2) {
				form(t, "directory", s, x, y.Hash)
			} else if y.Hash>>63 == 0 || which == 1 {
				finds(t, "directory", x, y.Hash, y.Loc, true)
			}
		}
		if l, e := x.Slots(); e != api.ErrForm || len(l) != 0 {
			t.Errorf("Slots: %v, error %d", l, e)
		}
		if l, e := x.Pages(); e != api.ErrForm || len(l) != 0 {
			t.Errorf("Pages: %v, error %d", l, e)
		}
	}
}

// P17.2: what stands in slots of two pages of references, one of which is none, or
// has another page, is not changed: it is told ahead of a change. So is a split, or
// a doubling, for which another page of references would be needed.
func TestFormChangesNothing(t *testing.T) {
	for _, y := range []struct {
		name   string
		plan   plan.Plan
		begins []string
		put    string
		row    int  // the page of references that is none
		others bool // or that has another page in all its slots
	}{
		{"a put", deep, []string{"000", "000", "001", "001", "1"}, "100", 2, true},
		{"a put into the other one", deep, []string{"000", "000", "001", "001", "1"}, "111", 1, true},
		{"a split", deep, []string{"000", "000", "001", "001", "10", "10", "11"}, "100", 2, true},
		{"a split in the other one", deep, []string{"000", "000", "001", "001", "10", "10", "11"}, "111", 1, true},
		{"a doubling", tight, []string{"000", "000", "000", "001"}, "000", 2, false},
		{"a doubling for the other one", tight, []string{"111", "111", "111", "110"}, "111", 1, false},
		{"a doubling behind a split", tight, []string{"000", "000", "001", "001", "010", "010", "010"}, "010", 2, false},
	} {
		_, s, x, w := holding(t, y.plan, entries(y.begins...)...)
		table, _ := dir.Open(s, 3, x.Root())
		own, e := table.Pages()
		need(t, "Pages", e, api.OK)
		right, e := s.Read(own[y.row])
		need(t, "Read", e, api.OK)
		wrong := [][]byte{{7}}
		if y.others {
			wrong = append(wrong, slices.Repeat(reference(own[0]), len(right)/12))
		}
		for _, row := range wrong {
			s.Write(own[y.row], row)
			was, splits := s.Parts(), x.Splits()
			if lost, e := x.Put(entry(number(y.put, 50), 6), 0); lost || e != api.ErrForm {
				t.Fatalf("%s: %v, error %d", y.name, lost, e)
			}
			unchanged(t, y.name, s, was)
			if x.Splits() != splits || x.Depth() != 3 || x.Root() != own[0] {
				t.Errorf("%s: %d splits, depth %d, root %v", y.name, x.Splits(), x.Depth(), x.Root())
			}
			s.Write(own[y.row], right)
			w.is(t, y.name, x, s)
		}
	}
}

// P17.2: what is dropped from slots of two pages of references, one of which is none,
// neither.
func TestFormDropsNothing(t *testing.T) {
	for row := 1; row <= 2; row++ {
		_, s, x, w := holding(t, deep, entries("000", "000", "001", "001", "1")...)
		list, _ := x.Slots()
		hash := list[4].Bucket.Entries[0].Hash
		table, _ := dir.Open(s, 3, x.Root())
		own, _ := table.Pages()
		right, _ := s.Read(own[row])
		s.Write(own[row], []byte{7})
		was := s.Parts()
		if is, e := x.Drop(hash); is || e != api.ErrForm {
			t.Errorf("Drop: %v, error %d", is, e)
		}
		unchanged(t, "Drop", s, was)
		s.Write(own[row], right)
		w.is(t, "Drop", x, s)
	}
}

// P17.2: the store's ErrFull, where there is no room for what is made: of a split,
// or anew.
func TestFull(t *testing.T) {
	list := varied()
	for name, y := range map[string]struct {
		commit bool
		makes  int
		do     func(x *Index) (bool, api.Errno)
	}{
		"Find":                 {true, 0, func(x *Index) (bool, api.Errno) { _, is, e := x.Find(list[0].Hash); return !is, e }},
		"Put into a fresh one": {false, 0, func(x *Index) (bool, api.Errno) { return x.Put(entry(number("000", 50), 6), 0) }},
		"Put behind a commit":  {true, 3, func(x *Index) (bool, api.Errno) { return x.Put(entry(number("000", 50), 6), 0) }},
		"split of a fresh one": {false, 1, func(x *Index) (bool, api.Errno) {
			x.Put(entry(number("111", 50), 6), 0)
			return x.Put(entry(number("111", 51), 6), 0)
		}},
		"Drop from a fresh one":   {false, 0, func(x *Index) (bool, api.Errno) { is, e := x.Drop(list[0].Hash); return !is && e == api.OK, e }},
		"Drop behind a commit":    {true, 3, func(x *Index) (bool, api.Errno) { is, e := x.Drop(list[0].Hash); return !is && e == api.OK, e }},
		"Drop of what is not one": {true, 0, func(x *Index) (bool, api.Errno) { return x.Drop(77) }},
	} {
		for left := range y.makes + 2 {
			d, s, x, _ := holding(t, deep, list...)
			if y.commit {
				kept(t, d, s)
			}
			fill(t, s, left)
			want := api.OK
			if left < y.makes {
				want = api.ErrFull
			}
			if is, e := y.do(x); is || e != want {
				t.Errorf("%s: %d left: %v, error %d, want %d", name, left, is, e, want)
			}
		}
	}
}

// P17.1, P17.2: the device's error, where a page is to be read that is not in memory.
func TestDown(t *testing.T) {
	d, s, x, _ := holding(t, deep, varied()...)
	var others []super.Ref
	for range 9 {
		r, e := s.New(nil)
		need(t, "New", e, api.OK)
		others = append(others, r)
	}
	kept(t, d, s)
	for range 3 {
		for _, r := range others[:8] {
			s.Read(r)
		}
	}
	down(d)
	for _, y := range varied() {
		if l, is, e := x.Find(y.Hash); l != (region.Loc{}) || is || e != api.ErrDown {
			t.Errorf("Find: %v, %v, error %d", l, is, e)
		}
		if lost, e := x.Put(y, 0); lost || e != api.ErrDown {
			t.Errorf("Put: %v, error %d", lost, e)
		}
		if was, e := x.Drop(y.Hash); was || e != api.ErrDown {
			t.Errorf("Drop: %v, error %d", was, e)
		}
	}
	if l, e := x.Slots(); len(l) != 0 || e != api.ErrDown {
		t.Errorf("Slots: %v, error %d", l, e)
	}
	if l, e := x.Pages(); len(l) != 0 || e != api.ErrDown {
		t.Errorf("Pages: %v, error %d", l, e)
	}
	if x.Depth() != 3 || x.Splits() == 0 {
		t.Errorf("depth %d, %d splits", x.Depth(), x.Splits())
	}
}

// P17.2: the device's error, where a page goes out of memory for one that is written,
// made, or read, whichever of them it is: OK is told only of what was done.
func TestGoesDown(t *testing.T) {
	list := varied()
	for name, do := range map[string]func(x *Index, w *worded) (bool, api.Errno){
		"Put": func(x *Index, w *worded) (bool, api.Errno) {
			w.put(entry(number("01", 50), 6), 0)
			return x.Put(entry(number("01", 50), 6), 0)
		},
		"Put with a split": func(x *Index, w *worded) (bool, api.Errno) {
			w.put(entry(number("111", 50), 6), 0)
			return x.Put(entry(number("111", 50), 6), 0)
		},
		"Drop": func(x *Index, w *worded) (bool, api.Errno) {
			w.drop(list[4].Hash)
			was, e := x.Drop(list[4].Hash)
			return was != (e == api.OK), e
		},
	} {
		seen := map[api.Errno]int{}
		for turn := range 16 {
			d, s, x, w := holding(t, deep, append(list, entry(number("110", 40), 5))...)
			oneDirty(t, d, s, turn)
			x.Slots()
			down(d)
			is, e := do(x, w)
			if seen[e]++; is {
				t.Errorf("%s: %v beside the error %d", name, is, e)
			}
			d.Crash(nil)
			if e == api.OK {
				w.is(t, name, x, s)
			}
		}
		if len(seen) != 2 || seen[api.OK] == 0 || seen[api.ErrDown] < 2 {
			t.Errorf("%s: errors %v", name, seen)
		}
	}
}

// oneDirty lets memory be full, and one page in it be dirty; the next one that goes
// out is another one at each turn.
func oneDirty(t *testing.T, d *flash.Device, s *store.Store, turn int) {
	t.Helper()
	var others []super.Ref
	for range 12 {
		r, e := s.New([]byte{3})
		need(t, "New", e, api.OK)
		others = append(others, r)
	}
	kept(t, d, s)
	for _, r := range others[4:] {
		s.Read(r)
	}
	_, e := s.New([]byte{4})
	need(t, "New", e, api.OK)
	for n := range turn {
		s.Read(others[n%12])
	}
}

// P17.1, P17.2: what is handed out is new memory: no two slots share any, though they
// have one bucket.
func TestHandedOut(t *testing.T) {
	_, s, x, w := holding(t, tight, entries("0", "000", "1", "1", "1111", "1111", "1110")...)
	for range 2 {
		list, e := x.Slots()
		need(t, "Slots", e, api.OK)
		for n, at := range list {
			for i := range at.Bucket.Entries {
				at.Bucket.Entries[i] = entry(77, n)
			}
			_ = append(at.Bucket.Entries, entry(78, n))
			for m, other := range list[n+1:] {
				if !same(other.Bucket, w.slots[n+1+m].bucket()) {
					t.Fatalf("slot %d shares memory with %d: %+v", n, n+1+m, other)
				}
			}
		}
		pages, e := x.Pages()
		need(t, "Pages", e, api.OK)
		clear(pages)
		clear(list)
		w.is(t, "handed out", x, s)
	}
}

// P17.1: splits are those since the index was made or opened.
func TestSplits(t *testing.T) {
	d, s, x, w := holding(t, deep, entries("000", "000", "001", "001")...)
	if x.Splits() != 3 {
		t.Errorf("%d splits", x.Splits())
	}
	kept(t, d, s)
	o := again(t, d, deep, 1)
	y, e := Open(o, x.Depth(), x.Root())
	need(t, "Open", e, api.OK)
	w = w.copy()
	for n, begin := range []string{"100", "100", "100", "101"} {
		if y.Splits() != 0 {
			t.Errorf("%d splits", y.Splits())
		}
		puts(t, y, w, entry(number(begin, uint64(n)), 6), 0, false)
	}
	w.is(t, "opened", y, o)
	if y.Splits() != 2 || x.Splits() != 3 {
		t.Errorf("%d and %d splits", y.Splits(), x.Splits())
	}
}

// walk does something by chance to an index and to what it should be; many numbers
// begin alike. It tells false, if the device went down.
func walk(t *testing.T, random *rand.Rand, x *Index, w *worded, q int) bool {
	t.Helper()
	hash := random.Uint64()
	if random.IntN(2) == 0 {
		hash &= random.Uint64() & random.Uint64()
	}
	if there := w.slots[random.IntN(len(w.slots))].bucket().Entries; random.IntN(3) == 0 && len(there) > 0 {
		hash = there[random.IntN(len(there))].Hash
	}
	if random.IntN(5) == 0 {
		was, e := x.Drop(hash)
		if e != api.ErrDown && (e != api.OK || was != w.drop(hash)) {
			t.Fatalf("Drop(%x): %v, error %d", hash, was, e)
		}
		return e == api.OK
	}
	y, oldest := entry(hash, q-random.IntN(3)), q-6-random.IntN(40)
	lost, e := x.Put(y, oldest)
	if e != api.ErrDown && (e != api.OK || lost != w.put(y, oldest)) {
		t.Fatalf("Put(%+v, %d): %v, error %d", y, oldest, lost, e)
	}
	return e == api.OK
}

// P17.1, P17.2, P17.3, P3, P5: whatever is done, one behind the other, with commits
// between, an index is as the document words it, its shape is right, no page is lost
// or left over, and three trees' pages are enough.
func TestWalk(t *testing.T) {
	for _, p := range plans {
		for seed := range uint64(6) {
			random := rand.New(rand.NewPCG(seed, uint64(p.Sectors)))
			d, s := stored(t, p)
			x, w := made(t, s), newWorded(p)
			for step := range 60 * (p.Depth + 1) {
				if !walk(t, random, x, w, 3+step/(1<<p.Depth)) {
					t.Fatal("down")
				}
				parted(t, "walked", x, s)
				if step%(1<<p.Depth/4+1) == 0 {
					w.is(t, "walked", x, s)
				}
				if random.IntN(4) == 0 {
					kept(t, d, s)
				}
				if random.IntN(60) == 0 {
					kept(t, d, s)
					o := again(t, d, p, s.Gen()-1)
					y, e := Open(o, x.Depth(), x.Root())
					need(t, "Open", e, api.OK)
					s, x, w = o, y, w.copy()
				}
			}
			w.is(t, "walked", x, s)
		}
	}
}

// P17.3: as long as none is lost, and none is stale, what was put last at each number
// is found, unless it was dropped since: till the greatest index is full.
func TestAllFound(t *testing.T) {
	_, s := stored(t, wide)
	x, w := made(t, s), newWorded(wide)
	last := map[uint64]region.Loc{}
	for n := range uint64(256 * 24) {
		y := entry(n%256<<56|n*n<<20, int(n))
		puts(t, x, w, y, 0, false)
		last[y.Hash] = y.Loc
		if n%5 == 4 {
			drops(t, x, w, y.Hash, true)
			delete(last, y.Hash)
			puts(t, x, w, entry(y.Hash, 3), 0, false)
			last[y.Hash] = entry(y.Hash, 3).Loc
		}
	}
	for hash, l := range last {
		finds(t, "all", x, hash, l, true)
	}
	if x.Depth() != 8 || x.Splits() != 255 || len(last) != 256*24 {
		t.Errorf("depth %d, %d splits, %d numbers", x.Depth(), x.Splits(), len(last))
	}
	w.is(t, "full", x, s)
	parted(t, "full", x, s)
	for n := range uint64(256) {
		puts(t, x, w, entry(n<<56|1, 1<<20), 0, true)
	}
	w.is(t, "one of each lost", x, s)
}

// tale is what there was at a commit.
type tale struct {
	depth, gen int
	root       super.Ref
	w          *worded
}

// told tells what there is behind a commit.
func told(s *store.Store, x *Index, w *worded) tale {
	return tale{x.Depth(), s.Gen() - 1, x.Root(), w.copy()}
}

// opens holds what can be opened to what there was at a commit.
func (c tale) opens(t *testing.T, name string, d *flash.Device, p plan.Plan) (*store.Store, *Index) {
	t.Helper()
	s := again(t, d, p, c.gen)
	x, e := Open(s, c.depth, c.root)
	need(t, name, e, api.OK)
	c.w.copy().is(t, name, x, s)
	return s, x
}

// commits tries to commit. It tells false, if the device went down.
func commits(d *flash.Device, s *store.Store) bool {
	if s.Flush() != api.OK || d.Sync() != api.OK {
		return false
	}
	s.Commit()
	return true
}

// P17.3, P3: wherever the device goes down, whatever a crash lets be done, what there
// was at the last commit is there in an index that is opened from it, and what there
// was at the one ahead of it, too; and it goes on.
func TestCrash(t *testing.T) {
	for seed := range uint64(300) {
		random := rand.New(rand.NewPCG(seed, 17))
		p := []plan.Plan{tight, deep, odd, flat}[seed%4]
		d, s := stored(t, p)
		x, w := made(t, s), newWorded(p)
		kept(t, d, s)
		ahead, last := told(s, x, w), told(s, x, w)
		for round := range 5 {
			d.Arm(1 + random.IntN(60))
			for step := 0; walk(t, random, x, w, 5+20*round+step); step++ {
				if random.IntN(6) == 0 {
					if !commits(d, s) {
						break
					}
					ahead, last = last, told(s, x, w)
				}
			}
			var fates []int
			for range d.Loose() {
				fates = append(fates, random.IntN(p.Size+1))
			}
			d.Crash(fates)
			_, y := ahead.opens(t, "the one ahead", d, p)
			pages, e := y.Pages()
			need(t, "Pages", e, api.OK)
			s, x = last.opens(t, fmt.Sprint("round ", round), d, p)
			s.Mourn(pages)
			w = last.w.copy()
		}
	}
}
