package cache

import (
	"bytes"
	"fmt"
	"math"
	"math/rand/v2"
	"reflect"
	"slices"
	"testing"

	"sgraffito/api"
	"sgraffito/bucket"
	"sgraffito/delta"
	"sgraffito/flash"
	"sgraffito/index"
	"sgraffito/mix"
	"sgraffito/plan"
	"sgraffito/region"
	"sgraffito/store"
	"sgraffito/super"
)

// small is the plan with which most is tried: regions of 308 bytes in 4 sectors of 77,
// a log of 5 sectors of 3 changes, buckets of 3 entries, up to 8 slots. flat has but
// one slot, lean up to 8; these two and odd have the fewest pages that may be. wide
// has great numbers: up to 256 slots, buckets of 24 entries, regions of 7888 bytes.
var (
	small = plan.Plan{Sectors: 140, Size: 96, Regions: 5, RegionSectors: 4, LogSectors: 5, Depth: 3, Memory: 8, Seed: 7}
	flat  = plan.Plan{Sectors: 22, Size: 96, Regions: 3, RegionSectors: 1, LogSectors: 4, Depth: 0, Memory: 8}
	lean  = plan.Plan{Sectors: 49, Size: 96, Regions: 3, RegionSectors: 2, LogSectors: 4, Depth: 3, Memory: 8, Seed: math.MaxUint64}
	odd   = plan.Plan{Sectors: 147, Size: 131, Regions: 7, RegionSectors: 3, LogSectors: 9, Depth: 5, Memory: 11, Seed: 1 << 63}
	wide  = plan.Plan{Sectors: 2000, Size: 512, Regions: 8, RegionSectors: 16, LogSectors: 32, Depth: 8, Memory: 64, Seed: 99}
	plans = []plan.Plan{small, flat, lean, odd, wide}
)

// bad are some that have no layout, or not small's sectors and size.
var bad = []plan.Plan{
	{},
	{Sectors: 140, Size: 96, Regions: 5, RegionSectors: 4, LogSectors: 5, Depth: 3, Memory: 7, Seed: 7},
	{Sectors: 140, Size: 96, Regions: 2, RegionSectors: 4, LogSectors: 5, Depth: 3, Memory: 8, Seed: 7},
	{Sectors: 140, Size: 96, Regions: 5, RegionSectors: 4, LogSectors: 5, Depth: 6, Memory: 8, Seed: 7},
	{Sectors: 139, Size: 96, Regions: 5, RegionSectors: 4, LogSectors: 5, Depth: 3, Memory: 8, Seed: 7},
	{Sectors: 141, Size: 96, Regions: 5, RegionSectors: 4, LogSectors: 5, Depth: 3, Memory: 8, Seed: 7},
	{Sectors: 140, Size: 97, Regions: 5, RegionSectors: 4, LogSectors: 5, Depth: 3, Memory: 8, Seed: 7},
}

// need fails the test at once, if an error is another one.
func need(t *testing.T, name string, got, want api.Errno) {
	t.Helper()
	if got != want {
		t.Fatalf("%s: error %d, want %d", name, got, want)
	}
}

// formatted tells a cache on a new device.
func formatted(t *testing.T, p plan.Plan) (*flash.Device, *Cache) {
	t.Helper()
	d := flash.New(p.Sectors, p.Size)
	c, e := Format(d, p)
	need(t, "Format", e, api.OK)
	return d, c
}

// opened tells one that was there.
func opened(t *testing.T, name string, d *flash.Device) *Cache {
	t.Helper()
	c, e := Open(d)
	need(t, name+": Open", e, api.OK)
	return c
}

// crashed lets a device crash, and opens what is there then.
func crashed(t *testing.T, d *flash.Device, fates ...int) *Cache {
	t.Helper()
	d.Crash(fates)
	return opened(t, "crashed", d)
}

// set sets a key, for good.
func set(t *testing.T, c *Cache, key, value string) {
	t.Helper()
	need(t, "Set "+key, c.Set([]byte(key), []byte(value), 0), api.OK)
}

// gets holds a Get to a value, missed to a miss.
func gets(t *testing.T, name string, c *Cache, key, want string) {
	t.Helper()
	if v, is, e := c.Get([]byte(key)); e != api.OK || !is || string(v) != want {
		t.Fatalf("%s: Get %q: %q, %v, error %d, want %q", name, key, v, is, e, want)
	}
}
func missed(t *testing.T, name string, c *Cache, key string) {
	t.Helper()
	if v, is, e := c.Get([]byte(key)); e != api.OK || is || len(v) != 0 {
		t.Fatalf("%s: Get %q: %q, %v, error %d, want a miss", name, key, v, is, e)
	}
}

// down lets a device go down.
func down(d *flash.Device) {
	d.Arm(1)
	d.Sync()
}

// same tells whether two devices are alike, their pasts and counts, too.
func same(x, y *flash.Device) bool { return reflect.DeepEqual(x.Copy(), y.Copy()) }

// fill sets so many keys, one behind the other, and tells them.
func fill(t *testing.T, c *Cache, count int) []string {
	t.Helper()
	var keys []string
	for n := range count {
		keys = append(keys, fmt.Sprint("key ", n))
		set(t, c, keys[n], fmt.Sprint("of ", n))
	}
	return keys
}

// fatesOf tells some ways that loose writes may go: none, all, the last alone, all but
// it, by turns, and torn.
func fatesOf(loose, size int) [][]int {
	list := [][]int{nil}
	for _, fate := range []func(at int) int{
		func(at int) int { return size },
		func(at int) int { return size * (at / max(loose-1, 1)) },
		func(at int) int { return size * min(loose-1-at, 1) },
		func(at int) int { return size * (at % 2) },
		func(at int) int { return size * (1 - at%2) },
		func(at int) int { return size - 1 },
		func(at int) int { return 15 + at%3*20 },
	} {
		var fates []int
		for at := range loose {
			fates = append(fates, fate(at))
		}
		list = append(list, fates)
	}
	return list
}

// chance tells fates: nothing, all, or some bytes of each.
func chance(r *rand.Rand, d *flash.Device) []int {
	fates := make([]int, d.Loose())
	for at := range fates {
		switch r.IntN(3) {
		case 0:
			fates[at] = d.Size()
		case 1:
			fates[at] = r.IntN(d.Size() + 1)
		}
	}
	return fates
}

// whole holds a cache to what always holds: its shape (P3), its pages, and how many are
// in memory (P5).
func whole(t *testing.T, name string, c *Cache, p plan.Plan) {
	t.Helper()
	parts, pages, e := c.Parts()
	need(t, name+": Parts", e, api.OK)
	all := slices.Sorted(slices.Values(slices.Concat(pages, parts.Dying, parts.Dead)))
	if !slices.Equal(all, parts.Taken) {
		t.Fatalf("%s: pages %d, parts %+v", name, pages, parts)
	}
	slots, e := c.Slots()
	need(t, name+": Slots", e, api.OK)
	s := c.Stats()
	if s.Held > p.Memory || len(slots) != 1<<s.Depth {
		t.Fatalf("%s: %d are in memory, %d slots of depth %d", name, s.Held, len(slots), s.Depth)
	}
	x, _ := plan.Fit(p)
	for at, y := range slots {
		b := y.Bucket
		if b.Depth > s.Depth || at>>(s.Depth-b.Depth) != b.Prefix || !bucket.Right(b, x.Slots) {
			t.Fatalf("%s: slot %d has %+v", name, at, b)
		}
		for n, z := range slots {
			if (n>>(s.Depth-b.Depth) == b.Prefix) != (z.Ref == y.Ref) {
				t.Fatalf("%s: slots %d and %d: %v, %v", name, at, n, y.Ref, z.Ref)
			}
		}
	}
}

// P18.1: a cache on a new device is empty, at time 0, behind one checkpoint.
func TestFormat(t *testing.T) {
	for _, p := range plans {
		d, c := formatted(t, p)
		x, _ := plan.Fit(p)
		want := Stats{Gen: 2, Where: x.RegionRoom, Oldest: 1, Left: p.LogSectors, Held: 3}
		if s := c.Stats(); s != want {
			t.Errorf("%+v, want %+v", s, want)
		}
		if n := c.Counts(); !slices.Equal(n, []int{0, 0, 0, 0, 0, 0, 1}) {
			t.Errorf("counts %d", n)
		}
		slots, e := c.Slots()
		if e != api.OK || len(slots) != 1 || len(slots[0].Bucket.Entries) != 0 {
			t.Errorf("slots %v, error %d", slots, e)
		}
		parts, pages, e := c.Parts()
		if e != api.OK || len(pages) != 3 || !slices.Equal(pages, parts.Taken) || len(parts.Fresh)+len(parts.Dying)+len(parts.Dead) != 0 {
			t.Errorf("pages %d, parts %+v, error %d", pages, parts, e)
		}
		if b, _ := d.Read(0); !bytes.Equal(b, make([]byte, p.Size)) || d.Loose() != 0 || c.Dead() {
			t.Errorf("head %d, %d loose", b, d.Loose())
		}
		l := super.Heads(d)
		if len(l) != 1 || l[0].Plan != p || l[0].Gen != 1 || l[0].Depth != 0 || l[0].Log != 1 || l[0].Region != 0 || l[0].Time != 0 {
			t.Errorf("heads %+v", l)
		}
		missed(t, "empty", c, "k")
		whole(t, "empty", c, p)
	}
}

// P18.1: ErrArg of no device, ahead of ErrPlan; ErrPlan, ahead of the device's error.
// Nothing is written then.
func TestFormatWrong(t *testing.T) {
	for _, p := range slices.Concat(bad, plans) {
		if c, e := Format(nil, p); e != api.ErrArg || c != nil {
			t.Errorf("no device: %v, error %d", c, e)
		}
	}
	d, c := formatted(t, small)
	set(t, c, "fox", "red")
	need(t, "Flush", c.Flush(), api.OK)
	before := d.Copy()
	for _, p := range bad {
		if c, e := Format(d, p); e != api.ErrPlan || c != nil || !same(d, before) {
			t.Errorf("%+v: %v, error %d", p, c, e)
		}
	}
	down(d)
	if c, e := Format(d, bad[0]); e != api.ErrPlan || c != nil {
		t.Errorf("down, no plan: %v, error %d", c, e)
	}
	if c, e := Format(d, small); e != api.ErrDown || c != nil {
		t.Errorf("down: %v, error %d", c, e)
	}
}

// elder tells a device on which a cache was, with a log and regions that were gone
// through more than once, and keys that are there.
func elder(t *testing.T, p plan.Plan) (*flash.Device, []string) {
	t.Helper()
	d, c := formatted(t, p)
	need(t, "Tick", c.Tick(50), api.OK)
	for n := range 40 {
		set(t, c, fmt.Sprint("elder ", n%7), "one of many that were, once")
	}
	need(t, "Checkpoint", c.Checkpoint(), api.OK)
	set(t, c, "fox", "red")
	set(t, c, "hen", "white")
	need(t, "Flush", c.Flush(), api.OK)
	gets(t, "elder", c, "fox", "red")
	return d, []string{"fox", "hen", "elder 0", "elder 1", "elder 2", "elder 3", "elder 4", "elder 5", "elder 6"}
}

// P18.1: nothing of an elder cache counts in one that is formatted upon it, nor when
// that is opened, nor when its head rots: no elder sector is read as a younger one.
func TestFormatAgain(t *testing.T) {
	for _, p := range []plan.Plan{small, lean, odd} {
		d, keys := elder(t, p)
		was, _ := super.Load(d)
		last, e := region.Open(d, p, 0)
		need(t, "region.Open", e, api.OK)
		log, _, _, e := delta.Open(d, p, 1)
		need(t, "delta.Open", e, api.OK)
		c, e := Format(d, p)
		need(t, "Format", e, api.OK)
		h := super.Heads(d)
		if len(h) != 1 || h[0].Gen != 1 || h[0].Time != 0 || h[0].Log != log.Next() || h[0].Region != last.Last() || last.Last() < 4 || log.Next() < 7 {
			t.Errorf("heads %+v, behind %+v", h, was)
		}
		x, _ := plan.Fit(p)
		want := Stats{Gen: 2, Where: (last.Last() + 1) * x.RegionRoom, Oldest: last.Last() - p.Regions + 1, Left: p.LogSectors, Held: 3}
		if s := c.Stats(); s != want {
			t.Errorf("%+v, want %+v", s, want)
		}
		for _, key := range keys {
			missed(t, "formatted again", c, key)
		}
		c = crashed(t, d)
		for _, key := range keys {
			missed(t, "opened", c, key)
		}
		if s := c.Stats(); s.Time != 0 {
			t.Errorf("%+v", s)
		}
		set(t, c, "owl", "grey")
		need(t, "Flush", c.Flush(), api.OK)
		c = crashed(t, d)
		gets(t, "opened again", c, "owl", "grey")
		for _, key := range keys {
			missed(t, "opened again", c, key)
		}
	}
	for _, p := range []plan.Plan{small, lean, odd} {
		d, _ := elder(t, p)
		_, e := Format(d, p)
		need(t, "Format", e, api.OK)
		d.Rot(1, 20, 1)
		if c, e := Open(d); e != api.ErrLost || c != nil {
			t.Errorf("without its head: %v, error %d", c, e)
		}
	}
}

// P18.1: wherever the device goes down, Format tells its error. Once the heads are
// gone, the elder cache is, too: there is an empty one behind the crash, or none.
func TestFormatDown(t *testing.T) {
	old, keys := elder(t, small)
	acts := old.Copy()
	_, e := Format(acts, small)
	need(t, "Format", e, api.OK)
	for n := range acts.Acts() - old.Acts() {
		for way := range 8 {
			d := old.Copy()
			d.Arm(n + 1)
			if c, e := Format(d, small); e != api.ErrDown || c != nil {
				t.Fatalf("down at %d: %v, error %d", n, c, e)
			}
			d.Crash(fatesOf(d.Loose(), d.Size())[way])
			c, e := Open(d)
			if e == api.ErrLost {
				continue
			}
			need(t, "Open", e, api.OK)
			for _, key := range keys {
				if _, is, _ := c.Get([]byte(key)); is && n > 2 {
					t.Errorf("down at %d: %q is there", n, key)
				}
			}
		}
	}
	if n := acts.Acts() - old.Acts(); n != 3+3+1+1+1 {
		t.Errorf("%d acts", n)
	}
}

// P18.1: Open's errors: ErrArg, ErrDown, ErrLost.
func TestOpenWrong(t *testing.T) {
	if c, e := Open(nil); e != api.ErrArg || c != nil {
		t.Errorf("no device: %v, error %d", c, e)
	}
	lost := func(name string, d *flash.Device) {
		t.Helper()
		before := d.Copy()
		if c, e := Open(d); e != api.ErrLost || c != nil || !same(d, before) {
			t.Errorf("%s: %v, error %d", name, c, e)
		}
		d = d.Copy()
		down(d)
		if c, e := Open(d); e != api.ErrDown || c != nil {
			t.Errorf("%s, and down: %v, error %d", name, c, e)
		}
	}
	lost("nothing", flash.New(140, 96))
	d, c := formatted(t, small)
	fill(t, c, 12)
	need(t, "Checkpoint", c.Checkpoint(), api.OK)
	_, pages, _ := c.Parts()
	if len(super.Heads(d)) != 2 || len(pages) < 5 {
		t.Fatalf("%d heads, pages %d", len(super.Heads(d)), pages)
	}
	x, _ := plan.Fit(small)
	for _, n := range pages {
		for _, at := range []int{3, 20, 95} {
			d.Rot(x.Page+n, at, 16)
			lost(fmt.Sprint("page ", n), d)
			d.Rot(x.Page+n, at, 16)
		}
	}
	d.Rot(0, 50, 1)
	d.Rot(1, 50, 1)
	lost("no head", d)
	d.Rot(0, 50, 1)
	opened(t, "one head", d)
}

// P18.1: ErrLost of a head that is right, of whose index a page is none, or its shape
// is not right, or there is no such page at all.
func TestOpenNoIndex(t *testing.T) {
	d, c := formatted(t, small)
	fill(t, c, 12)
	need(t, "Checkpoint", c.Checkpoint(), api.OK)
	h, _ := super.Load(d)
	_, pages, _ := c.Parts()
	for n := range 4 {
		if n != h.Depth {
			x := h
			x.Depth = n
			need(t, "Save", super.Save(d, x), api.OK)
			_, e := Open(d)
			need(t, fmt.Sprint("depth ", n), e, api.ErrLost)
		}
	}
	for _, r := range []super.Ref{
		{Page: h.Root.Page, Stamp: h.Root.Stamp + 1},
		{Page: pages[0] + pages[1] - h.Root.Page, Stamp: h.Root.Stamp},
		{Page: 112, Stamp: 1},
		{Page: 113, Stamp: 1},
		{Page: 1<<31 - 1},
	} {
		x := h
		x.Root = r
		need(t, "Save", super.Save(d, x), api.OK)
		_, e := Open(d)
		need(t, fmt.Sprint("root ", r), e, api.ErrLost)
	}
	need(t, "Save", super.Save(d, h), api.OK)
	gets(t, "as it was", opened(t, "as it was", d), "key 11", "of 11")
}

// P18.1: a head whose numbers are beyond those that may be is told to be lost, and
// nothing panics.
func TestOpenBeyond(t *testing.T) {
	d, _ := formatted(t, small)
	h, _ := super.Load(d)
	for _, n := range []int{1<<40 + 1, math.MaxInt} {
		for _, x := range []super.Head{
			{Gen: n, Log: 1},
			{Gen: 1, Log: n},
			{Gen: 1, Log: 1, Region: n},
		} {
			x.Plan, x.Root = small, h.Root
			o := d.Copy()
			need(t, "Save", super.Save(o, x), api.OK)
			if c, e := Open(o); e != api.ErrLost || c != nil {
				t.Errorf("%+v: %v, error %d", x, c, e)
			}
		}
	}
}

// P18.1, P18.5: wherever the device goes down while a cache is opened, Open tells its
// error; and behind the crash it is opened, with all that there was.
func TestOpenDown(t *testing.T) {
	for _, p := range []plan.Plan{small, lean} {
		old, c := formatted(t, p)
		need(t, "Tick", c.Tick(3), api.OK)
		var keys []string
		for n := range 5 {
			keys = append(keys, string(rune('a'+n)))
			set(t, c, keys[n], fmt.Sprint("of ", n))
			if n == 1 {
				need(t, "Checkpoint", c.Checkpoint(), api.OK)
			}
		}
		need(t, "Delete", c.Delete([]byte("a")), api.OK)
		need(t, "Flush", c.Flush(), api.OK)
		whole := old.Copy()
		opened(t, "whole", whole)
		acts := whole.Acts() - old.Acts()
		if acts < 5 {
			t.Fatalf("%d acts", acts)
		}
		for n := range acts {
			for way := range 8 {
				d := old.Copy()
				d.Arm(n + 1)
				if c, e := Open(d); e != api.ErrDown || c != nil {
					t.Fatalf("down at %d: %v, error %d", n, c, e)
				}
				d.Crash(fatesOf(d.Loose(), d.Size())[way])
				for range 2 {
					c := opened(t, fmt.Sprint("down at ", n, ", ", way), d)
					missed(t, "down", c, "a")
					for n, key := range keys[1:] {
						gets(t, "down", c, key, fmt.Sprint("of ", n+1))
					}
					d.Crash(nil)
				}
			}
		}
	}
}

// P18.1: of what a head tells of its own, and what stands behind it, the greater one
// counts: the time of the head, or of the log; the region of the head, of a change, or
// of a sector.
func TestOpenGreatest(t *testing.T) {
	d, c := formatted(t, small)
	need(t, "Tick", c.Tick(9), api.OK)
	need(t, "Checkpoint", c.Checkpoint(), api.OK)
	c = crashed(t, d)
	if n := c.Stats().Time; n != 9 {
		t.Errorf("time %d of the head", n)
	}
	need(t, "Tick", c.Tick(2), api.OK)
	set(t, c, "k", "v")
	need(t, "Tick", c.Tick(2), api.OK)
	need(t, "Flush", c.Flush(), api.OK)
	need(t, "Tick", c.Tick(2), api.OK)
	set(t, c, "k", "v")
	c = crashed(t, d)
	if n := c.Stats().Time; n != 13 {
		t.Errorf("time %d of the log", n)
	}
	set(t, c, "k", "w")
	need(t, "Flush", c.Flush(), api.OK)
	h, _ := super.Load(d)
	h.Time = 40
	need(t, "Save", super.Save(d, h), api.OK)
	if n := opened(t, "by hand", d).Stats().Time; n != 40 {
		t.Errorf("time %d of the head, which is above the log's", n)
	}
}

// P18.1, P18.5: a region of which only a change tells, or only a head, was begun: it is
// not begun again.
func TestOpenRegion(t *testing.T) {
	d, c := formatted(t, small)
	where := func(c *Cache, last int) {
		t.Helper()
		if s := c.Stats(); s.Where != (last+1)*308 {
			t.Fatalf("%+v, want the region %d", s, last)
		}
	}
	where(c, 0)
	for n := range 3 { // a sector of changes, none of a region
		need(t, "Set", c.Set([]byte{byte('a' + n)}, []byte("v"), 0), api.OK)
	}
	if d.Loose() != 1 {
		t.Fatalf("%d are loose", d.Loose())
	}
	c = crashed(t, d, 96)
	where(c, 1)
	missed(t, "not flushed", c, "a")
	c = crashed(t, d)
	where(c, 1)
	set(t, c, "b", "new")
	if s := c.Stats(); s.Where != 2*308+15+2 {
		t.Errorf("%+v", s)
	}
	need(t, "Flush", c.Flush(), api.OK)
	c = crashed(t, d)
	where(c, 2)
	gets(t, "flushed", c, "b", "new")
	missed(t, "not flushed", c, "a")
	need(t, "Set", c.Set([]byte("d"), make([]byte, 160), 0), api.OK) // two sectors of a region, none of changes
	if d.Loose() != 2 {
		t.Fatalf("%d are loose", d.Loose())
	}
	c = crashed(t, d, 0, 96)
	where(c, 3)
	for _, begun := range []int{4, 4} { // at first a change tells of it, ahead of others that do not, and then the head
		if c.Stats().Where < (begun+1)*308 {
			set(t, c, "e", "v")
		}
		for range 4 {
			need(t, "Delete", c.Delete([]byte("e")), api.OK)
		}
		if d.Loose() != 1 {
			t.Fatalf("%d are loose", d.Loose())
		}
		c = crashed(t, d, 96)
		where(c, begun)
	}
}

// acts tells what a call writes and syncs, one behind the other, for small: each time
// the device goes down one act later.
func acts(t *testing.T, begin func() (*flash.Device, *Cache), do func(d *flash.Device, c *Cache) api.Errno) []string {
	t.Helper()
	names := func(at int) string {
		switch {
		case at < 2:
			return "head"
		case at < 7:
			return "log"
		case at < 27:
			return "region"
		}
		return "page"
	}
	d, _ := begin()
	pasts := func(d *flash.Device) []int {
		var list []int
		for at := range d.Sectors() {
			list = append(list, len(d.Past(at)))
		}
		return list
	}
	was, list := pasts(d), []string{}
	for n := 1; ; n++ {
		d, c := begin()
		d.Arm(n)
		if e := do(d, c); e == api.OK {
			return list
		} else if e != api.ErrDown {
			t.Fatalf("error %d", e)
		}
		name, now := "sync", pasts(d)
		for at := range now {
			if now[at] != was[at] {
				name = names(at)
			}
		}
		list, was = append(list, name), now
	}
}

// P18.1, P18.2: in which order it is that calls write and sync.
func TestActs(t *testing.T) {
	begin := func() (*flash.Device, *Cache) {
		d, c := formatted(t, small)
		set(t, c, "k", "v")
		return d, c
	}
	full := func() (*flash.Device, *Cache) {
		d, c := begin()
		for range 14 {
			need(t, "Delete", c.Delete([]byte("none")), api.OK)
		}
		return d, c
	}
	flushed := func() (*flash.Device, *Cache) {
		d, c := begin()
		need(t, "Flush", c.Flush(), api.OK)
		d.Crash(nil)
		return d, nil
	}
	// of the three pages of an empty index the bucket, the references and the root are other ones then
	checkpoint := []string{"region", "page", "page", "page", "sync", "head", "sync"}
	for _, y := range []struct {
		name  string
		begin func() (*flash.Device, *Cache)
		do    func(d *flash.Device, c *Cache) api.Errno
		want  []string
	}{
		{"Format", begin, func(d *flash.Device, c *Cache) api.Errno { _, e := Format(d, small); return e },
			[]string{"head", "head", "sync", "page", "page", "page", "sync", "head", "sync"}},
		{"Open", flushed, func(d *flash.Device, c *Cache) api.Errno { _, e := Open(d); return e }, checkpoint[1:]},
		{"Flush", begin, func(d *flash.Device, c *Cache) api.Errno { return c.Flush() }, []string{"region", "log", "sync"}},
		{"Flush of a full log", full, func(d *flash.Device, c *Cache) api.Errno { return c.Flush() }, checkpoint},
		{"Checkpoint", begin, func(d *flash.Device, c *Cache) api.Errno { return c.Checkpoint() }, checkpoint},
		{"Checkpoint of a full log", full, func(d *flash.Device, c *Cache) api.Errno { return c.Checkpoint() }, checkpoint},
		{"Set", begin, func(d *flash.Device, c *Cache) api.Errno {
			c.Delete([]byte("none"))
			return c.Set([]byte("l"), make([]byte, 160), 0)
		}, []string{"region", "region", "log"}},
		{"Set of a full log", full, func(d *flash.Device, c *Cache) api.Errno { return c.Set([]byte("l"), make([]byte, 160), 0) },
			slices.Concat(checkpoint, []string{"region", "region"})},
		{"Delete of a full log", full, func(d *flash.Device, c *Cache) api.Errno { return c.Delete([]byte("l")) }, checkpoint},
		{"Get", begin, func(d *flash.Device, c *Cache) api.Errno { _, _, e := c.Get([]byte("k")); return e }, nil},
		{"Tick", begin, func(d *flash.Device, c *Cache) api.Errno { return c.Tick(1) }, nil},
	} {
		if list := acts(t, y.begin, y.do); !slices.Equal(list, y.want) {
			t.Errorf("%s: %v, want %v", y.name, list, y.want)
		}
	}
}

// P18.2: a Set appends, puts into the index, and adds to the log, in this order: so a
// page that goes out of memory for it is written ahead of a sector of the log that is
// full, and behind one of the regions.
func TestSetActs(t *testing.T) {
	all := 0
	for count := range 45 {
		list := acts(t, func() (*flash.Device, *Cache) {
			d, c := formatted(t, small)
			fill(t, c, count)
			return d, c
		}, func(_ *flash.Device, c *Cache) api.Errno { return c.Set([]byte("new"), make([]byte, 70), 0) })
		if slices.Contains(list, "sync") {
			continue // a checkpoint ahead of it
		}
		region, page, log := slices.Index(list, "region"), slices.Index(list, "page"), slices.Index(list, "log")
		if page >= 0 && page < region || log >= 0 && log < max(region, page) || log >= 0 && log < len(list)-1 {
			t.Errorf("%d: %v", count, list)
		}
		if region >= 0 && page >= 0 && log >= 0 {
			all++
		}
	}
	if all == 0 {
		t.Error("never all three")
	}
}

// P18.1: a checkpoint's head tells all that there is then; it stands in the sector of
// its generation, and is synced.
func TestHead(t *testing.T) {
	for _, p := range plans {
		d, c := formatted(t, p)
		x, _ := plan.Fit(p)
		for n := range 30 {
			set(t, c, fmt.Sprint(n), "v")
			need(t, "Tick", c.Tick(n), api.OK)
			if n%4 == 0 {
				need(t, "Flush", c.Flush(), api.OK)
			}
			was := c.Stats()
			slots, _ := c.Slots()
			need(t, "Checkpoint", c.Checkpoint(), api.OK)
			h, e := super.Load(d)
			s := c.Stats()
			need(t, "Load", e, api.OK)
			if h.Plan != p || h.Gen != was.Gen || s.Gen != was.Gen+1 || h.Depth != s.Depth || h.Region != (s.Where-1)/x.RegionRoom || h.Time != s.Time || s.Left != p.LogSectors || d.Loose() != 0 {
				t.Fatalf("head %+v, stats %+v, ahead %+v", h, s, was)
			}
			l, _, _, e := delta.Open(d, p, 1)
			if e != api.OK || h.Log != l.Next() {
				t.Fatalf("the log from %d on, want %d", h.Log, l.Next())
			}
			o, e := store.Open(d, p, h.Gen)
			need(t, "store.Open", e, api.OK)
			y, e := index.Open(o, h.Depth, h.Root)
			need(t, "index.Open", e, api.OK)
			if there, _ := y.Slots(); !reflect.DeepEqual(there, slots) {
				t.Fatalf("slots %v, want %v", there, slots)
			}
		}
	}
}

// refuses holds each call of a cache to an error, with all else zeros.
func refuses(t *testing.T, name string, c *Cache, want api.Errno) {
	t.Helper()
	for _, key := range []string{"k", ""} {
		if v, is, e := c.Get([]byte(key)); v != nil || is || e != want {
			t.Errorf("%s: Get: %d, %v, error %d, want %d", name, v, is, e, want)
		}
		for _, ttl := range []int{0, -1} {
			if e := c.Set([]byte(key), make([]byte, 5000*len(key)), ttl); e != want {
				t.Errorf("%s: Set: error %d, want %d", name, e, want)
			}
		}
		if e := c.Delete([]byte(key)); e != want {
			t.Errorf("%s: Delete: error %d, want %d", name, e, want)
		}
	}
	for call, e := range map[string]api.Errno{"Flush": c.Flush(), "Checkpoint": c.Checkpoint(), "Tick": c.Tick(1), "wrong Tick": c.Tick(-1)} {
		if e != want {
			t.Errorf("%s: %s: error %d, want %d", name, call, e, want)
		}
	}
	if s := c.Stats(); s != (Stats{}) {
		t.Errorf("%s: %+v", name, s)
	}
	if n := c.Counts(); !slices.Equal(n, make([]int, 7)) {
		t.Errorf("%s: counts %d", name, n)
	}
	if l, e := c.Slots(); l != nil || e != want {
		t.Errorf("%s: slots %v, error %d, want %d", name, l, e, want)
	}
	if parts, pages, e := c.Parts(); !reflect.DeepEqual(parts, store.Parts{}) || pages != nil || e != want {
		t.Errorf("%s: parts %v, pages %d, error %d, want %d", name, parts, pages, e, want)
	}
}

// P18.2, P18.3: ErrArg of nil, ahead of all else; ErrState of a dead cache, likewise.
func TestNilAndDead(t *testing.T) {
	var none *Cache
	refuses(t, "nil", none, api.ErrArg)
	if none.Dead() {
		t.Error("nil is dead")
	}
	for n := range 3 {
		d, c := formatted(t, small)
		set(t, c, "k", "v")
		d.Arm(1)
		var e api.Errno
		switch n {
		case 0:
			e = c.Checkpoint()
		case 1:
			e = c.Flush()
		case 2:
			for range 3 {
				e = c.Set([]byte("l"), make([]byte, 200), 0)
			}
		}
		if n < 2 {
			need(t, "down", e, api.ErrDown)
		} else {
			need(t, "down", e, api.ErrState)
		}
		if !c.Dead() {
			t.Error("not dead")
		}
		refuses(t, "dead", c, api.ErrState)
		before := d.Copy()
		refuses(t, "dead still", c, api.ErrState)
		if !same(d, before) {
			t.Error("a dead cache does something")
		}
		d.Crash(nil)
		refuses(t, "behind the crash", c, api.ErrState)
		refuses(t, "opened", c, api.ErrState)
		opened(t, "opened", d)
	}
}

// P18.2: of each call that writes, wherever the device goes down: it tells its error,
// and the cache is dead.
func TestGoesDown(t *testing.T) {
	for call, do := range map[string]func(c *Cache) api.Errno{
		"Set":        func(c *Cache) api.Errno { return c.Set([]byte("new"), make([]byte, 250), 0) },
		"Delete":     func(c *Cache) api.Errno { return c.Delete([]byte("key 1")) },
		"Flush":      func(c *Cache) api.Errno { return c.Flush() },
		"Checkpoint": func(c *Cache) api.Errno { return c.Checkpoint() },
		"Get": func(c *Cache) api.Errno {
			e := api.OK
			for n := 0; n < 20 && e == api.OK; n++ {
				_, _, e = c.Get([]byte(fmt.Sprint("key ", n)))
			}
			return e
		},
	} {
		acts := 0
		for changes := range 17 { // till the log is full
			old, c := formatted(t, small)
			fill(t, c, 20)
			need(t, "Checkpoint", c.Checkpoint(), api.OK)
			for n := range changes {
				set(t, c, fmt.Sprint("key ", n*7%20), "another one")
			}
			before := old.Acts()
			need(t, call, do(c), api.OK)
			for n := range old.Acts() - before {
				d, c := formatted(t, small)
				fill(t, c, 20)
				need(t, "Checkpoint", c.Checkpoint(), api.OK)
				for n := range changes {
					set(t, c, fmt.Sprint("key ", n*7%20), "another one")
				}
				d.Arm(n + 1)
				if e := do(c); e != api.ErrDown || !c.Dead() {
					t.Fatalf("%s: down at %d: error %d, dead %v", call, n, e, c.Dead())
				}
				refuses(t, call, c, api.ErrState)
				acts++
			}
		}
		if acts < 8 {
			t.Errorf("%s: %d acts", call, acts)
		}
	}
}

// P18.2: a Get whose record stands on a device that is down tells that, and the cache
// is dead; one whose record is not asked of the device does not.
func TestGetDown(t *testing.T) {
	d, c := formatted(t, small)
	set(t, c, "fox", "red")
	need(t, "Flush", c.Flush(), api.OK)
	set(t, c, "hen", "white")
	down(d)
	gets(t, "under way", c, "hen", "white")
	missed(t, "not there", c, "owl")
	if v, is, e := c.Get([]byte("fox")); e != api.ErrDown || is || v != nil || !c.Dead() {
		t.Errorf("%q, %v, error %d, dead %v", v, is, e, c.Dead())
	}
	refuses(t, "dead", c, api.ErrState)
}

// unchanged holds a call that tells an error to that, and to changing nothing.
func unchanged(t *testing.T, name string, d *flash.Device, c *Cache, got, want api.Errno, before *flash.Device, was Stats, counts []int) {
	t.Helper()
	if got != want {
		t.Errorf("%s: error %d, want %d", name, got, want)
	}
	if s := c.Stats(); s != was || !slices.Equal(c.Counts(), counts) || !same(d, before) || c.Dead() {
		t.Errorf("%s: changed: %+v, %d, were %+v, %d", name, s, c.Counts(), was, counts)
	}
}

// P18.2: what may not be: keys, values, times, records that are too long, in this
// order; nothing is changed, also where there would be a checkpoint.
func TestWrong(t *testing.T) {
	for _, full := range []bool{false, true} {
		d, c := formatted(t, small)
		need(t, "Tick", c.Tick(10), api.OK)
		for n := 0; full && n < 15; n++ {
			need(t, "Delete", c.Delete([]byte("none")), api.OK)
		}
		if (c.Stats().Left == 0) != full {
			t.Fatalf("%+v", c.Stats())
		}
		before, was, counts := d.Copy(), c.Stats(), c.Counts()
		for _, key := range [][]byte{nil, {}, make([]byte, 65), make([]byte, 5000)} {
			for _, value := range [][]byte{nil, make([]byte, 4096), make([]byte, 4097)} {
				for _, ttl := range []int{0, -1, math.MaxInt} {
					unchanged(t, "Set of a key", d, c, c.Set(key, value, ttl), api.ErrKey, before, was, counts)
				}
			}
			unchanged(t, "Delete of a key", d, c, c.Delete(key), api.ErrKey, before, was, counts)
			v, is, e := c.Get(key)
			unchanged(t, "Get of a key", d, c, e, api.ErrKey, before, was, counts)
			if v != nil || is {
				t.Errorf("Get: %d, %v", v, is)
			}
		}
		for _, ttl := range []int{0, -1, math.MinInt, math.MaxInt} {
			unchanged(t, "Set of a value", d, c, c.Set([]byte("k"), make([]byte, 4097), ttl), api.ErrValue, before, was, counts)
		}
		for _, ttl := range []int{-1, -5, -10, -11, math.MinInt, api.MaxClock - 9, api.MaxClock, math.MaxInt, math.MaxInt - 10} {
			for _, n := range []int{0, 295, 4096} {
				unchanged(t, fmt.Sprint("Set for ", ttl), d, c, c.Set([]byte("k"), make([]byte, n), ttl), api.ErrRange, before, was, counts)
			}
		}
		for _, n := range []int{295, 296, 4096} {
			unchanged(t, "Set of a long one", d, c, c.Set([]byte("k"), make([]byte, n), 0), api.ErrLong, before, was, counts)
			unchanged(t, "Set of a long one", d, c, c.Set([]byte("k"), make([]byte, n), api.MaxClock-10), api.ErrLong, before, was, counts)
		}
		for _, n := range []int{-1, math.MinInt, api.MaxClock - 9, math.MaxInt} {
			unchanged(t, fmt.Sprint("Tick ", n), d, c, c.Tick(n), api.ErrRange, before, was, counts)
		}
	}
}

// P18.2: the longest key, the longest value that goes into a region, the longest one of
// all; an empty value is there, too.
func TestLongest(t *testing.T) {
	_, c := formatted(t, small)
	key := string(bytes.Repeat([]byte{200}, 64))
	set(t, c, key, string(bytes.Repeat([]byte{7}, 308-13-64)))
	gets(t, "longest key", c, key, string(bytes.Repeat([]byte{7}, 308-13-64)))
	set(t, c, "k", string(make([]byte, 294)))
	gets(t, "fills a region", c, "k", string(make([]byte, 294)))
	gets(t, "the one ahead", c, key, string(bytes.Repeat([]byte{7}, 308-13-64)))
	set(t, c, "\x00", "")
	gets(t, "empty", c, "\x00", "")
	missed(t, "another key", c, "\x00\x00")
	_, c = formatted(t, wide)
	set(t, c, key, string(bytes.Repeat([]byte{9}, 4096)))
	gets(t, "longest", c, key, string(bytes.Repeat([]byte{9}, 4096)))
	need(t, "Set", c.Set([]byte("k"), make([]byte, 4097), 0), api.ErrValue)
}

// Examples 1 to 3.
func TestExamples(t *testing.T) {
	d, c := formatted(t, small)
	set(t, c, "k", "v")
	gets(t, "1", c, "k", "v")
	need(t, "Delete", c.Delete([]byte("k")), api.OK)
	missed(t, "1", c, "k")
	need(t, "Set", c.Set([]byte("k"), []byte("v"), 5), api.OK)
	need(t, "Tick", c.Tick(5), api.OK)
	missed(t, "2", c, "k")
	set(t, c, "k", "v")
	need(t, "Flush", c.Flush(), api.OK)
	gets(t, "3", crashed(t, d), "k", "v")
}

// P18.2: when a record ends, and the time goes on, up to MaxClock.
func TestTime(t *testing.T) {
	d, c := formatted(t, small)
	need(t, "Tick", c.Tick(0), api.OK)
	need(t, "Set", c.Set([]byte("a"), []byte("x"), 1), api.OK)
	need(t, "Set", c.Set([]byte("b"), []byte("y"), 7), api.OK)
	set(t, c, "c", "z")
	gets(t, "time 0", c, "a", "x")
	need(t, "Tick", c.Tick(1), api.OK)
	missed(t, "time 1", c, "a")
	gets(t, "time 1", c, "b", "y")
	need(t, "Set", c.Set([]byte("a"), []byte("again"), 6), api.OK)
	need(t, "Tick", c.Tick(5), api.OK)
	gets(t, "time 6", c, "a", "again")
	gets(t, "time 6", c, "b", "y")
	need(t, "Flush", c.Flush(), api.OK)
	need(t, "Tick", c.Tick(1), api.OK)
	missed(t, "time 7", c, "a")
	missed(t, "time 7", c, "b")
	gets(t, "time 7", c, "c", "z")
	if s := c.Stats(); s.Time != 7 {
		t.Errorf("%+v", s)
	}
	c = crashed(t, d) // the last tick was not flushed
	gets(t, "time 6 again", c, "a", "again")
	need(t, "Tick", c.Tick(1), api.OK)
	need(t, "Flush", c.Flush(), api.OK)
	c = crashed(t, d)
	missed(t, "time 7 again", c, "a")
	need(t, "Tick", c.Tick(api.MaxClock-10), api.OK)
	need(t, "Set", c.Set([]byte("e"), []byte("end"), 4), api.ErrRange)
	need(t, "Set", c.Set([]byte("e"), []byte("end"), 3), api.OK)
	gets(t, "nearly", c, "e", "end")
	need(t, "Tick", c.Tick(4), api.ErrRange)
	need(t, "Tick", c.Tick(3), api.OK)
	missed(t, "at the end", c, "e")
	gets(t, "at the end", c, "c", "z")
	need(t, "Tick", c.Tick(1), api.ErrRange)
	need(t, "Tick", c.Tick(0), api.OK)
	need(t, "Set", c.Set([]byte("e"), nil, 1), api.ErrRange)
	set(t, c, "e", "for good")
	gets(t, "for good", c, "e", "for good")
	need(t, "Flush", c.Flush(), api.OK)
	c = crashed(t, d)
	gets(t, "for good", c, "e", "for good")
	if s := c.Stats(); s.Time != api.MaxClock {
		t.Errorf("%+v", s)
	}
}

// P18.2: three changes go into a sector of small's log; when its five are gone, the
// next change, or flush, is behind a checkpoint.
func TestLogFull(t *testing.T) {
	for call, do := range map[string]func(c *Cache) api.Errno{
		"Set":    func(c *Cache) api.Errno { return c.Set([]byte("k"), []byte("v"), 0) },
		"Delete": func(c *Cache) api.Errno { return c.Delete([]byte("k")) },
	} {
		for flush := range 2 {
			_, c := formatted(t, small)
			for n := 1; n <= 15; n++ {
				need(t, call, do(c), api.OK)
				if s := c.Stats(); s.Left != 5-n/3 || s.Gen != 2 || c.Counts()[6] != 1 {
					t.Fatalf("%s %d: %+v", call, n, s)
				}
			}
			if flush == 1 {
				need(t, "Flush", c.Flush(), api.OK)
				if s := c.Stats(); s.Left != 5 || s.Gen != 3 || c.Counts()[6] != 2 || c.Counts()[4] != 1 {
					t.Errorf("Flush: %+v", s)
				}
				continue
			}
			need(t, call, do(c), api.OK)
			if s := c.Stats(); s.Left != 5 || s.Gen != 3 || c.Counts()[6] != 2 {
				t.Errorf("%s: %+v", call, s)
			}
			for range 2 {
				need(t, call, do(c), api.OK)
			}
			if s := c.Stats(); s.Left != 4 || s.Gen != 3 {
				t.Errorf("%s: %+v", call, s)
			}
		}
	}
}

// P18.2: a flush writes a sector of the log only if something was changed, or the time
// goes on; it is one sync.
func TestFlush(t *testing.T) {
	d, c := formatted(t, small)
	for _, y := range []struct{ sets, ticks, acts, left int }{
		{0, 0, 1, 5},
		{1, 0, 3, 4},
		{0, 0, 1, 4},
		{0, 2, 2, 3},
		{0, 0, 1, 3},
		{2, 1, 3, 2},
		{1, 0, 3, 1},
		{0, 1, 2, 0},
	} {
		for range y.sets {
			set(t, c, "k", "v")
		}
		need(t, "Tick", c.Tick(y.ticks), api.OK)
		before := d.Acts()
		need(t, "Flush", c.Flush(), api.OK)
		if n := d.Acts() - before; n != y.acts || c.Stats().Left != y.left || d.Loose() != 0 {
			t.Errorf("%+v: %d acts, %+v, %d loose", y, n, c.Stats(), d.Loose())
		}
	}
	need(t, "Flush", c.Flush(), api.OK)
	if s := c.Stats(); s.Left != 5 || s.Gen != 3 {
		t.Errorf("%+v", s)
	}
}

// P18.2, P18.5: a Delete of what is not there is a change, too.
func TestDeleteNothing(t *testing.T) {
	d, c := formatted(t, small)
	for range 3 {
		need(t, "Delete", c.Delete([]byte("none")), api.OK)
	}
	if s := c.Stats(); s.Left != 4 || s.Where != 308 {
		t.Errorf("%+v", s)
	}
	need(t, "Flush", c.Flush(), api.OK)
	_, changes, _, e := delta.Open(d, small, 1)
	x := delta.Change{Drop: true, Hash: mix.Hash(7, []byte("none"))}
	if e != api.OK || !slices.Equal(changes, []delta.Change{x, x, x}) {
		t.Errorf("changes %v, error %d", changes, e)
	}
}

// P18.2: what is done stands in the log as it was done, with its locations and times.
func TestLog(t *testing.T) {
	d, c := formatted(t, small)
	hash := func(key string) uint64 { return mix.Hash(7, []byte(key)) }
	need(t, "Tick", c.Tick(4), api.OK)
	set(t, c, "fox", "red")
	set(t, c, "owl", string(make([]byte, 280)))
	need(t, "Delete", c.Delete([]byte("fox")), api.OK)
	need(t, "Tick", c.Tick(4), api.OK)
	set(t, c, "hen", "")
	need(t, "Flush", c.Flush(), api.OK)
	h, _ := super.Load(d)
	_, changes, time, e := delta.Open(d, small, h.Log)
	want := []delta.Change{
		{Hash: hash("fox"), Loc: region.Loc{Region: 1, At: 0, Size: 19}},
		{Hash: hash("owl"), Loc: region.Loc{Region: 2, At: 0, Size: 296}},
		{Drop: true, Hash: hash("fox")},
		{Hash: hash("hen"), Loc: region.Loc{Region: 3, At: 0, Size: 16}},
	}
	if e != api.OK || time != 8 || !slices.Equal(changes, want) {
		t.Errorf("changes %v, time %d, error %d", changes, time, e)
	}
	slots, _ := c.Slots()
	var entries []bucket.Entry
	for _, y := range slots {
		entries = append(entries, y.Bucket.Entries...)
	}
	slices.SortFunc(entries, func(x, y bucket.Entry) int { return x.Loc.Region - y.Loc.Region })
	if len(entries) != 2 || entries[0] != (bucket.Entry{Hash: want[1].Hash, Loc: want[1].Loc}) || entries[1] != (bucket.Entry{Hash: want[3].Hash, Loc: want[3].Loc}) {
		t.Errorf("entries %v", entries)
	}
}

// P18.2, P18.4: two keys of one number: the one that was set last is told, the other
// one is a miss; a Delete of either takes away what stands there.
func TestOneNumber(t *testing.T) {
	one, other := "8yn0iYCKYHlIj4-BwPqk", "GReLUrM4wMqfg9yzV3KQ"
	if mix.Hash(0, []byte(one)) != mix.Hash(0, []byte(other)) {
		t.Fatal("two numbers")
	}
	d, c := formatted(t, flat)
	set(t, c, one, "1")
	missed(t, "not set", c, other)
	set(t, c, other, "2")
	missed(t, "written over", c, one)
	gets(t, "set last", c, other, "2")
	need(t, "Flush", c.Flush(), api.OK)
	c = crashed(t, d)
	missed(t, "opened", c, one)
	gets(t, "opened", c, other, "2")
	need(t, "Delete", c.Delete([]byte(one)), api.OK)
	missed(t, "deleted", c, one)
	missed(t, "deleted", c, other)
}
