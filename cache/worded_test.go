package cache

import (
	"cmp"
	"fmt"
	"maps"
	"math/rand/v2"
	"slices"
	"testing"

	"sgraffito/api"
	"sgraffito/bucket"
	"sgraffito/flash"
	"sgraffito/mix"
	"sgraffito/plan"
	"sgraffito/region"
)

// part is a bucket of an index as the document words it, and table such an index.
type part struct {
	depth, prefix int
	locs          map[uint64]region.Loc
}
type table struct {
	most, room    int // the plan's depth, a bucket's entries
	depth, splits int
	parts         []*part
}

// copy tells one like it, as if it was opened: no bucket was split since.
func (x *table) copy() *table {
	c := &table{most: x.most, room: x.room, depth: x.depth}
	for _, b := range x.parts {
		c.parts = append(c.parts, &part{b.depth, b.prefix, maps.Clone(b.locs)})
	}
	return c
}

// of tells a number's bucket.
func (x *table) of(hash uint64) *part {
	at := slices.IndexFunc(x.parts, func(b *part) bool { return b.depth == 0 || int(hash>>(64-b.depth)) == b.prefix })
	return x.parts[at]
}

// put puts an entry, and tells whether one was lost.
func (x *table) put(hash uint64, l region.Loc, oldest int) (lost bool) {
	for {
		b := x.of(hash)
		if _, there := b.locs[hash]; there || len(b.locs) < x.room {
			b.locs[hash] = l
			return false
		}
		maps.DeleteFunc(b.locs, func(_ uint64, l region.Loc) bool { return l.Region < oldest })
		switch {
		case len(b.locs) < x.room:
			b.locs[hash] = l
			return false
		case b.depth == x.most:
			delete(b.locs, b.eldest())
			b.locs[hash] = l
			return true
		}
		x.split(b)
	}
}

// split parts a bucket.
func (x *table) split(b *part) {
	b.depth, b.prefix = b.depth+1, 2*b.prefix
	other := &part{b.depth, b.prefix + 1, map[uint64]region.Loc{}}
	for hash, l := range b.locs {
		if hash>>(64-b.depth)%2 == 1 {
			other.locs[hash] = l
		}
	}
	maps.DeleteFunc(b.locs, func(hash uint64, _ region.Loc) bool { return hash>>(64-b.depth)%2 == 1 })
	x.parts = append(x.parts, other)
	x.depth = max(x.depth, b.depth)
	x.splits++
}

// eldest tells the number of the eldest entry.
func (b *part) eldest() uint64 {
	return slices.MinFunc(slices.Collect(maps.Keys(b.locs)), func(x, y uint64) int {
		return cmp.Or(cmp.Compare(b.locs[x].Region, b.locs[y].Region), cmp.Compare(b.locs[x].At, b.locs[y].At), cmp.Compare(x, y))
	})
}

// entries tells them, by their numbers.
func (b *part) entries() []bucket.Entry {
	var list []bucket.Entry
	for _, hash := range slices.Sorted(maps.Keys(b.locs)) {
		list = append(list, bucket.Entry{Hash: hash, Loc: b.locs[hash]})
	}
	return list
}

// said is a record, change a change, and sheet a sector of the log.
type said struct {
	key, value string
	end        int
}
type change struct {
	drop bool
	hash uint64
	loc  region.Loc
}
type sheet struct {
	time    int
	changes []change
}

// worded is a cache as the document words it, on a device that crashes only between
// two calls, and does then all of its loose writes, or none.
type worded struct {
	p          plan.Plan
	x          plan.Layout
	time, gen  int
	lost       int
	counts     [7]int
	keys       *table
	records    map[region.Loc]said
	last       int         // the region that was begun last,
	sector     int         // its sector under way,
	fill       int         // and how much stands in it
	stamps     map[int]int // of each sector of regions that was written its region
	fast       map[int]int // and what of that is fast
	from, next int         // sectors of the log
	written    int         // the time that was written there last
	under      []change
	sheets     []sheet // what was written from from on,
	synced     int     // and how many of these are fast
	head       struct {
		keys         *table
		region, time int
	}
}

// newWorded tells an empty one.
func newWorded(p plan.Plan) *worded {
	x, _ := plan.Fit(p)
	w := &worded{p: p, x: x, gen: 1, from: 1, next: 1, sector: p.RegionSectors}
	w.keys = &table{most: p.Depth, room: x.Slots, parts: []*part{{locs: map[uint64]region.Loc{}}}}
	w.records, w.stamps, w.fast = map[region.Loc]said{}, map[int]int{}, map[int]int{}
	w.checkpoint()
	return w
}

func (w *worded) per() int    { return (w.p.Size - 28) / 21 } // changes in a sector of the log
func (w *worded) room() int   { return w.p.Size - 19 }        // bytes in one of a region
func (w *worded) left() int   { return w.p.LogSectors - (w.next - w.from) }
func (w *worded) oldest() int { return max(w.last-w.p.Regions+1, 1) }
func (w *worded) where() int  { return w.last*w.x.RegionRoom + w.sector*w.room() + w.fill }
func (w *worded) place(q, sector int) int {
	return q%w.p.Regions*w.p.RegionSectors + sector
}

// write writes the region's sector under way.
func (w *worded) write() {
	w.stamps[w.place(w.last, w.sector)] = w.last
	w.sector, w.fill = w.sector+1, 0
}

// flush flushes the regions, if something is under way.
func (w *worded) flush() {
	if w.fill > 0 {
		w.write()
	}
}

// append appends a record.
func (w *worded) append(x said) region.Loc {
	size := 13 + len(x.key) + len(x.value)
	if w.sector*w.room()+w.fill+size > w.x.RegionRoom {
		w.flush()
		w.last, w.sector, w.fill = w.last+1, 0, 0
	}
	l := region.Loc{Region: w.last, At: w.sector*w.room() + w.fill, Size: size}
	for range size {
		w.fill++
		if w.fill == w.room() {
			w.write()
		}
	}
	w.records[l] = x
	return l
}

// sheet writes a sector of the log.
func (w *worded) sheet() {
	w.sheets = append(w.sheets, sheet{w.time, w.under})
	w.under, w.written, w.next = nil, w.time, w.next+1
}

// sync is a sync.
func (w *worded) sync() { w.fast, w.synced = maps.Clone(w.stamps), len(w.sheets) }

// checkpoint is a checkpoint.
func (w *worded) checkpoint() {
	w.flush()
	w.sync()
	w.head.keys, w.head.region, w.head.time = w.keys.copy(), w.last, w.time
	w.from, w.under, w.sheets, w.synced = w.next, nil, nil, 0
	w.gen++
	w.counts[6]++
}

// makeRoom is what is done ahead of a change.
func (w *worded) makeRoom() {
	if w.left() == 0 {
		w.checkpoint()
	}
}

// do does a change.
func (w *worded) do(x change) {
	if x.drop {
		delete(w.keys.of(x.hash).locs, x.hash)
	} else if w.keys.put(x.hash, x.loc, w.oldest()) {
		w.lost++
	}
}

// change does a change, and adds it to the log.
func (w *worded) change(x change, kind int) {
	w.do(x)
	w.under = append(w.under, x)
	if len(w.under) == w.per() {
		w.sheet()
	}
	w.counts[kind]++
}

// number tells a key's.
func (w *worded) number(key string) uint64 { return mix.Hash(w.p.Seed, []byte(key)) }

// The calls, where they tell OK.
func (w *worded) doSet(key, value string, ttl int) {
	end := 0
	if ttl > 0 {
		end = w.time + ttl
	}
	w.makeRoom()
	w.change(change{hash: w.number(key), loc: w.append(said{key, value, end})}, 2)
}
func (w *worded) doDelete(key string) {
	w.makeRoom()
	w.change(change{drop: true, hash: w.number(key)}, 3)
}
func (w *worded) doFlush() {
	if w.left() == 0 {
		w.checkpoint()
	} else {
		w.flush()
		if len(w.under) > 0 || w.time != w.written {
			w.sheet()
		}
		w.sync()
	}
	w.counts[4]++
}
func (w *worded) doTick(n int) {
	w.time += n
	w.counts[5]++
}
func (w *worded) doGet(key string) (string, bool) {
	l, is := w.keys.of(w.number(key)).locs[w.number(key)]
	x := w.records[l]
	if !is || !w.reads(l) || x.key != key || x.end != 0 && x.end <= w.time {
		w.counts[1]++
		return "", false
	}
	w.counts[0]++
	return x.value, true
}

// reads tells whether a location is still there.
func (w *worded) reads(l region.Loc) bool {
	for sector := l.At / w.room(); sector <= (l.At+l.Size-1)/w.room(); sector++ {
		under := l.Region == w.last && sector == w.sector
		if !under && w.stamps[w.place(l.Region, sector)] != l.Region {
			return false
		}
	}
	return l.Region >= w.oldest() && l.Region <= w.last
}

// reopen is a crash behind which all loose writes are done, or none, and what is opened
// then.
func (w *worded) reopen(done bool) {
	if !done {
		w.stamps, w.sheets = maps.Clone(w.fast), w.sheets[:w.synced]
	}
	w.time, w.last = w.head.time, w.head.region
	for _, q := range w.stamps {
		w.last = max(w.last, q)
	}
	for _, x := range w.sheets {
		w.time = max(w.time, x.time)
		for _, y := range x.changes {
			w.last = max(w.last, y.loc.Region)
		}
	}
	w.sector, w.fill = w.p.RegionSectors, 0
	w.next, w.written, w.under = w.from+len(w.sheets), 0, nil
	w.keys, w.lost, w.counts = w.head.keys.copy(), 0, [7]int{}
	for _, x := range w.sheets {
		for _, y := range x.changes {
			w.do(y)
		}
	}
	w.checkpoint()
}

// is holds a cache to what it should be.
func (w *worded) is(t *testing.T, name string, c *Cache) {
	t.Helper()
	want := Stats{
		Time:   w.time,
		Gen:    w.gen,
		Depth:  w.keys.depth,
		Where:  w.where(),
		Oldest: w.oldest(),
		Left:   w.left(),
		Lost:   w.lost,
		Splits: w.keys.splits,
	}
	s := c.Stats()
	if s.Held < 1 || s.Held > w.p.Memory {
		t.Fatalf("%s: %d are in memory", name, s.Held)
	}
	want.Held = s.Held
	if s != want {
		t.Fatalf("%s: %+v, want %+v", name, s, want)
	}
	if n := c.Counts(); !slices.Equal(n, w.counts[:]) {
		t.Fatalf("%s: counts %d, want %d", name, n, w.counts)
	}
}

// has holds a cache's slots to what they should be.
func (w *worded) has(t *testing.T, name string, c *Cache) {
	t.Helper()
	slots, e := c.Slots()
	need(t, name, e, api.OK)
	for at, y := range slots {
		b := w.keys.of(uint64(at) << (63 - w.keys.depth) << 1)
		if y.Bucket.Depth != b.depth || y.Bucket.Prefix != b.prefix || !slices.Equal(y.Bucket.Entries, b.entries()) {
			t.Fatalf("%s: slot %d has %+v, want %+v", name, at, y.Bucket, b)
		}
	}
	whole(t, name, c, w.p)
}

// due is a value that was set last for a key, and that may have to be told: when it
// ends, where the regions were, how many entries were lost, whether it was flushed.
type due struct {
	value            string
	end, where, lost int
	flushed          bool
}

// walker goes through a cache by chance, with what it should be beside it, and with the
// values that may have to be told.
type walker struct {
	d     *flash.Device
	c     *Cache
	w     *worded
	r     *rand.Rand
	keys  []string
	dues  map[string]due
	sure  map[string]string // what was set last, till the first crash
	told  int               // how many values had to be told
	found int               // and how many were
}

// newWalker tells one with a cache on a new device.
func newWalker(t *testing.T, p plan.Plan, seed uint64) *walker {
	t.Helper()
	d, c := formatted(t, p)
	x := &walker{d: d, c: c, w: newWorded(p), r: rand.New(rand.NewPCG(seed, uint64(p.Sectors)))}
	x.dues, x.sure = map[string]due{}, map[string]string{}
	for n := range 4 + 1<<p.Depth*2 {
		x.keys = append(x.keys, fmt.Sprint("key ", n))
	}
	return x
}

// key tells one by chance.
func (x *walker) key() string { return x.keys[x.r.IntN(len(x.keys))] }

// get holds a Get to what it should be, and to P18.4.
func (x *walker) get(t *testing.T, key string) {
	t.Helper()
	want, there := x.w.doGet(key)
	v, is, e := x.c.Get([]byte(key))
	if e != api.OK || is != there || string(v) != want {
		t.Fatalf("Get %q: %q, %v, error %d, want %q, %v", key, v, is, e, want, there)
	}
	if is {
		x.found++
	}
	if value, set := x.sure[key]; is && x.sure != nil && (!set || value != string(v)) {
		t.Fatalf("Get %q: %q, set last was %q, %v", key, v, value, set)
	}
	s := x.c.Stats()
	y, is := x.dues[key]
	ended := y.end != 0 && y.end <= s.Time
	if is && !ended && s.Where-y.where < (x.w.p.Regions-1)*x.w.x.RegionRoom && s.Lost == y.lost {
		x.told++
		if string(v) != y.value {
			t.Fatalf("Get %q: %q, want %+v; %+v", key, v, y, s)
		}
	}
}

// set sets a key.
func (x *walker) set(t *testing.T, key string) {
	t.Helper()
	value, ttl := fmt.Sprint(x.w.counts[2], " of ", key), 0
	for range x.r.IntN(min(200, x.w.x.RegionRoom*2/3)) {
		value += "."
	}
	value = value[:min(len(value), x.w.x.RegionRoom-13-len(key))]
	y := due{value: value, where: x.c.Stats().Where}
	if x.r.IntN(5) == 0 {
		ttl = 1 + x.r.IntN(9)
		y.end = x.c.Stats().Time + ttl
	}
	need(t, "Set", x.c.Set([]byte(key), []byte(value), ttl), api.OK)
	x.w.doSet(key, value, ttl)
	y.lost = x.c.Stats().Lost
	x.dues[key] = y
	if x.sure != nil {
		x.sure[key] = value
	}
}

// delete deletes one.
func (x *walker) delete(t *testing.T, key string) {
	t.Helper()
	need(t, "Delete", x.c.Delete([]byte(key)), api.OK)
	x.w.doDelete(key)
	delete(x.dues, key)
	delete(x.sure, key)
}

// flush flushes, or makes a checkpoint.
func (x *walker) flush(t *testing.T, all bool) {
	t.Helper()
	if all {
		need(t, "Checkpoint", x.c.Checkpoint(), api.OK)
		x.w.checkpoint()
	} else {
		need(t, "Flush", x.c.Flush(), api.OK)
		x.w.doFlush()
	}
	for key, y := range maps.Clone(x.dues) {
		y.flushed = true
		x.dues[key] = y
	}
}

// crash lets the device crash, with all loose writes done, or none, and opens what is
// there then.
func (x *walker) crash(t *testing.T, done bool) {
	t.Helper()
	begun := x.w.last
	var fates []int
	for range x.d.Loose() {
		fates = append(fates, map[bool]int{true: x.d.Size()}[done])
	}
	x.c = crashed(t, x.d, fates...)
	x.w.reopen(done)
	x.sure = nil
	lost := x.c.Stats().Lost > 0
	for key, y := range maps.Clone(x.dues) {
		if !y.flushed || lost || (begun+2)*x.w.x.RegionRoom-y.where >= (x.w.p.Regions-1)*x.w.x.RegionRoom {
			delete(x.dues, key)
			continue
		}
		y.lost = 0
		x.dues[key] = y
	}
}

// step does something by chance; crashes only where they may be.
func (x *walker) step(t *testing.T, crashes bool) {
	t.Helper()
	switch k := x.r.IntN(100); {
	case k < 40:
		x.set(t, x.key())
	case k < 50:
		x.delete(t, x.key())
	case k < 53:
		x.flush(t, false)
	case k < 54:
		x.flush(t, true)
	case k < 57:
		n := x.r.IntN(4)
		need(t, "Tick", x.c.Tick(n), api.OK)
		x.w.doTick(n)
	case k < 60 && crashes:
		x.crash(t, k == 59)
	default:
		x.get(t, x.key())
	}
}

// P18.1 to P18.4, P3, P5: whatever is done, one behind the other, a cache is as the
// document words it; behind crashes, too, in which nothing that is loose is done, or all.
func TestWalk(t *testing.T) {
	told, found := 0, 0
	for _, p := range plans {
		for seed := range uint64(12) {
			x := newWalker(t, p, seed)
			for step := range 60 * (p.Depth + 2) {
				x.step(t, seed%2 == 1)
				name := fmt.Sprint("plan ", p.Sectors, ", seed ", seed, ", step ", step)
				x.w.is(t, name, x.c)
				if step%(1<<p.Depth/4+1) == 0 {
					x.w.has(t, name, x.c)
				}
			}
			for _, key := range x.keys {
				x.get(t, key)
			}
			told, found = told+x.told, found+x.found
		}
	}
	if told < 2000 || found < told {
		t.Errorf("%d had to be told, %d were", told, found)
	}
}
