package audit

import (
	"fmt"
	"math"
	"reflect"
	"slices"
	"testing"

	"sgraffito/api"
	"sgraffito/cache"
	"sgraffito/delta"
	"sgraffito/flash"
	"sgraffito/leaf"
	"sgraffito/mix"
	"sgraffito/plan"
	"sgraffito/record"
	"sgraffito/region"
	"sgraffito/super"
)

// small is the plan with which most is tried: regions of 308 bytes in 4 sectors of 77,
// a log of 5 sectors of 3 changes, buckets of 3 entries, up to 8 slots. flat has but
// one slot, lean up to 8; these two and odd have the fewest pages that may be. wide
// has great numbers: up to 256 slots, buckets of 24 entries, regions of 7888 bytes.
var (
	small = plan.Plan{Sectors: 140, Size: 96, Regions: 5, RegionSectors: 4, LogSectors: 5, Depth: 3, Memory: 8, Seed: 7}
	flat  = plan.Plan{Sectors: 22, Size: 96, Regions: 3, RegionSectors: 1, LogSectors: 4, Depth: 0, Memory: 8}
	lean  = plan.Plan{Sectors: 49, Size: 96, Regions: 3, RegionSectors: 2, LogSectors: 4, Depth: 3, Memory: 8, Seed: math.MaxUint64}
	odd   = plan.Plan{Sectors: 147, Size: 131, Regions: 7, RegionSectors: 3, LogSectors: 9, Depth: 5, Memory: 11, Seed: 1 << 63}
	wide  = plan.Plan{Sectors: 2000, Size: 512, Regions: 8, RegionSectors: 16, LogSectors: 32, Depth: 8, Memory: 64, Seed: 99}
	plans = []plan.Plan{small, flat, lean, odd, wide}
)

// need fails the test at once, if an error is another one.
func need(t *testing.T, name string, got, want api.Errno) {
	t.Helper()
	if got != want {
		t.Fatalf("%s: error %d, want %d", name, got, want)
	}
}

// formatted tells a cache on a new device.
func formatted(t *testing.T, p plan.Plan) (*flash.Device, *cache.Cache) {
	t.Helper()
	d := flash.New(p.Sectors, p.Size)
	c, e := cache.Format(d, p)
	need(t, "Format", e, api.OK)
	return d, c
}

// set sets a key, for good.
func set(t *testing.T, c *cache.Cache, key, value string) {
	t.Helper()
	need(t, "Set "+key, c.Set([]byte(key), []byte(value), 0), api.OK)
}

// fill sets so many keys, one behind the other.
func fill(t *testing.T, c *cache.Cache, count int) {
	t.Helper()
	for n := range count {
		set(t, c, fmt.Sprint("key ", n), fmt.Sprint("of ", n))
	}
}

// down lets a device go down.
func down(d *flash.Device) {
	d.Arm(1)
	d.Sync()
}

// same tells whether two devices are alike, their pasts and counts, too.
func same(x, y *flash.Device) bool { return reflect.DeepEqual(x.Copy(), y.Copy()) }

// refused holds a look to an error: there is no report then, and nothing is changed.
func refused(t *testing.T, name string, d *flash.Device, want api.Errno) {
	t.Helper()
	before := d.Copy()
	r, e := Look(d)
	if e != want || !reflect.DeepEqual(r, Report{}) {
		t.Fatalf("%s: error %d, want %d; %+v", name, e, want, r)
	}
	if !same(d, before) {
		t.Fatalf("%s: it is changed", name)
	}
}

// textOf tells a region's records, each as its key, its value and its end.
func textOf(x Region) []string {
	var list []string
	for _, y := range x.Records {
		list = append(list, fmt.Sprintf("%s=%s/%d", y.Key, y.Value, y.End))
	}
	return list
}

// all tells the records of all regions, one behind the other.
func all(r Report) []string {
	var list []string
	for _, x := range r.Regions {
		list = append(list, textOf(x)...)
	}
	return list
}

// regionsIn tells the numbers of a report's regions.
func regionsIn(r Report) []int {
	var list []int
	for _, x := range r.Regions {
		list = append(list, x.Number)
	}
	return list
}

// P19.1, and the example: of a cache that was formatted there are one slot, three pages,
// no changes, no regions.
func TestEmpty(t *testing.T) {
	for _, p := range plans {
		d, c := formatted(t, p)
		r, is := looks(t, "empty", d, p)
		if !is || len(r.Slots) != 1 || len(r.Pages) != 3 || len(r.Changes) != 0 || len(r.Regions) != 0 || r.Time != 0 {
			t.Errorf("%+v", r)
		}
		if h, _ := super.Load(d); r.Head != h || h.Gen != 1 || h.Plan != p {
			t.Errorf("head %+v, want %+v", r.Head, h)
		}
		if len(r.Slots[0].Bucket.Entries) != 0 || Live(r) != 0 || len(Torn(d)) != 0 || !Shape(0, r.Slots) || c.Dead() {
			t.Errorf("%+v", r)
		}
	}
}

// P19.1: ErrArg of no device, ErrDown of one that is down, whatever stands there, ErrLost
// of one on which no head is right.
func TestNoReport(t *testing.T) {
	refused(t, "no device", nil, api.ErrArg)
	refused(t, "nothing", flash.New(140, 96), api.ErrLost)
	refused(t, "one sector", flash.New(1, 512), api.ErrLost)
	d := flash.New(140, 96)
	down(d)
	refused(t, "nothing, down", d, api.ErrDown)
	d, c := formatted(t, small)
	fill(t, c, 9)
	need(t, "Checkpoint", c.Checkpoint(), api.OK)
	o := d.Copy()
	down(o)
	refused(t, "down", o, api.ErrDown)
	o.Crash(nil)
	if _, e := Look(o); e != api.OK {
		t.Errorf("behind the crash: error %d", e)
	}
	down(o)
	for at := range 2 {
		o.Rot(at, 20, 1)
		d.Rot(at, 20, 1)
	}
	refused(t, "no head, down", o, api.ErrDown)
	refused(t, "no head", d, api.ErrLost)
}

// P19.1: ErrLost, if any page of the index is none, as Open of a cache; another sector
// may be what it likes.
func TestNoPage(t *testing.T) {
	d, c := formatted(t, small)
	fill(t, c, 14)
	need(t, "Checkpoint", c.Checkpoint(), api.OK)
	_, pages, _ := c.Parts()
	fill(t, c, 4)
	need(t, "Flush", c.Flush(), api.OK)
	x, _ := plan.Fit(small)
	h, _ := super.Load(d)
	if h.Depth < 2 || len(pages) < 6 {
		t.Fatalf("depth %d, pages %d", h.Depth, pages)
	}
	for at := range small.Sectors {
		o := d.Copy()
		o.Rot(at, 7, 4)
		name := fmt.Sprint("sector ", at)
		if slices.Contains(pages, at-x.Page) {
			refused(t, name, o, api.ErrLost)
		} else {
			looks(t, name, o, small)
		}
		_, e := Look(o)
		if _, opened := cache.Open(o); opened != e {
			t.Errorf("%s: error %d; a cache's Open: %d", name, e, opened)
		}
	}
}

// P19.1: no index stands where a head says, if its root is no page of the device's, or
// one of other references, or the pages are of another shape.
func TestNoIndex(t *testing.T) {
	d, c := formatted(t, small)
	fill(t, c, 14)
	need(t, "Checkpoint", c.Checkpoint(), api.OK)
	right, _ := super.Load(d)
	slots, _ := c.Slots()
	for name, change := range map[string]func(h *super.Head){
		"no such page": func(h *super.Head) { h.Root.Page = 1 << 20 },
		"other stamp":  func(h *super.Head) { h.Root.Stamp++ },
		"a bucket":     func(h *super.Head) { h.Root = slots[0].Ref },
		"less deep":    func(h *super.Head) { h.Depth-- },
	} {
		h := right
		h.Gen++
		o := d.Copy()
		need(t, name, super.Save(o, h), api.OK)
		if _, e := Look(o); e != api.OK {
			t.Errorf("right: error %d", e)
		}
		change(&h)
		need(t, name, super.Save(o, h), api.OK)
		refused(t, name, o, api.ErrLost)
	}
}

// P19.1: a head whose numbers are beyond those that may be is told to be lost, as a
// cache's Open tells it, and nothing panics.
func TestBeyond(t *testing.T) {
	d, _ := formatted(t, small)
	h, _ := super.Load(d)
	for _, n := range []int{1<<40 + 1, math.MaxInt} {
		for _, x := range []super.Head{
			{Gen: n, Log: 1},
			{Gen: 1, Log: n},
			{Gen: 1, Log: 1, Region: n},
		} {
			x.Plan, x.Root = small, h.Root
			o := d.Copy()
			need(t, "Save", super.Save(o, x), api.OK)
			refused(t, fmt.Sprintf("%+v", x), o, api.ErrLost)
			_, e := cache.Open(o)
			need(t, "Open", e, api.ErrLost)
		}
	}
}

// P19.1: the newest head that is right counts, and the index that stands there, not what
// was put there since.
func TestNewestHead(t *testing.T) {
	d, c := formatted(t, small)
	var slots, pages []string
	for n := range 6 {
		fill(t, c, 4+n) // so few that the log is not full
		need(t, "Checkpoint", c.Checkpoint(), api.OK)
		set(t, c, "later", fmt.Sprint(n))
		need(t, "Flush", c.Flush(), api.OK)
		o := d.Copy()
		for range 2 {
			r, is := looks(t, fmt.Sprint("checkpoint ", n), o, small)
			if h, _ := super.Load(o); !is || r.Head != h {
				t.Fatalf("head %+v, want %+v", r.Head, h)
			}
			slots, pages = append(slots, fmt.Sprint(r.Slots)), append(pages, fmt.Sprint(r.Pages))
			o.Rot(r.Head.Gen%2, 50, 128)
		}
		if k := len(slots); n > 0 && (slots[k-1] != slots[k-4] || pages[k-1] != pages[k-4] || slots[k-1] == slots[k-2]) {
			t.Fatalf("checkpoint %d: behind rot of the newest head it is %s, was %s", n, slots[k-1], slots[k-4])
		}
		refused(t, "no head", o, api.ErrLost)
	}
}

// P19.1: the changes are those that the log has from the head's number on, in their
// order; what is under way is not there yet.
func TestChanges(t *testing.T) {
	d, c := formatted(t, small)
	fill(t, c, 4)
	if r, _ := looks(t, "one under way", d, small); len(r.Changes) != 3 {
		t.Errorf("%+v", r.Changes)
	}
	need(t, "Checkpoint", c.Checkpoint(), api.OK)
	looks(t, "checkpoint", d, small)
	var want []delta.Change
	for n := range 5 {
		key := []byte(fmt.Sprint("key ", n))
		set(t, c, string(key), "v")
		where := c.Stats().Where
		want = append(want, delta.Change{Hash: mix.Hash(7, key), Loc: region.Loc{Region: where / 308, At: where%308 - 19, Size: 19}})
		need(t, "Delete", c.Delete(key), api.OK)
		want = append(want, delta.Change{Drop: true, Hash: mix.Hash(7, key)})
		need(t, "Tick", c.Tick(1), api.OK)
		r, _ := looks(t, "under way", d, small)
		if written := len(want) / 3 * 3; !slices.Equal(r.Changes, want[:written]) {
			t.Errorf("%+v, want %+v", r.Changes, want[:written])
		}
	}
	need(t, "Flush", c.Flush(), api.OK)
	r, _ := looks(t, "flushed", d, small)
	if !slices.Equal(r.Changes, want) || r.Time != 5 {
		t.Errorf("%+v, want %+v; time %d", r.Changes, want, r.Time)
	}
	if len(r.Slots[0].Bucket.Entries) == 0 || r.Head.Time != 0 {
		t.Errorf("what was deleted stands in the index till a checkpoint: %+v", r)
	}
	x, _ := plan.Fit(small)
	d.Rot(x.Log+(r.Head.Log+1)%small.LogSectors, 30, 1)
	r, _ = looks(t, "a sector of the log rots", d, small)
	if !slices.Equal(r.Changes, want[:3]) || r.Time != 1 {
		t.Errorf("%+v, want %+v; time %d", r.Changes, want[:3], r.Time)
	}
}

// written tells a device on which a cache was formatted, then a log of some sectors
// written, with a change of the number n in the sector n, at the time 10 n.
func written(t *testing.T, sectors int) *flash.Device {
	t.Helper()
	d, _ := formatted(t, small)
	l, e := delta.Format(d, small)
	need(t, "Format", e, api.OK)
	for n := 1; n <= sectors; n++ {
		need(t, "Add", l.Add(delta.Change{Hash: uint64(n), Drop: true}, 10*n), api.OK)
		need(t, "Flush", l.Flush(10*n), api.OK)
	}
	return d
}

// P19.1: the log counts from the head's number on; the time is the greatest of what is
// read and of the head's.
func TestTime(t *testing.T) {
	for from := 1; from <= 5; from++ {
		for _, time := range []int{0, 29, 30, 31, 1000, api.MaxClock} {
			d := written(t, 3)
			h, _ := super.Load(d)
			h.Gen, h.Log, h.Time = h.Gen+1, from, time
			need(t, "Save", super.Save(d, h), api.OK)
			r, is := looks(t, fmt.Sprint("from ", from), d, small)
			want := time
			if from <= 3 {
				want = max(time, 30)
			}
			if !is || r.Time != want || len(r.Changes) != max(4-from, 0) {
				t.Errorf("from %d, head's time %d: time %d, changes %+v", from, time, r.Time, r.Changes)
			}
			for n, x := range r.Changes {
				if x.Hash != uint64(from+n) {
					t.Errorf("from %d: changes %+v", from, r.Changes)
				}
			}
		}
	}
}

// P19.1: the greatest time counts, not the last one.
func TestTimeGoesBack(t *testing.T) {
	d, _ := formatted(t, small)
	l, e := delta.Format(d, small)
	need(t, "Format", e, api.OK)
	for _, time := range []int{7, 90, 8} {
		need(t, "Flush", l.Flush(time), api.OK)
	}
	if r, _ := looks(t, "back", d, small); r.Time != 90 || len(r.Changes) != 0 {
		t.Errorf("%+v", r)
	}
}

// P19.1: the regions that are there are the last ones that were begun, as the head, a
// change, or a sector of regions tells; also those without a record.
func TestRegions(t *testing.T) {
	x, _ := plan.Fit(small)
	for _, y := range []struct {
		name                string
		head, change, stamp int
		want                []int
	}{
		{"none", 0, 0, 0, nil},
		{"head", 1, 0, 0, []int{1}},
		{"head, less than may be", 4, 0, 0, []int{1, 2, 3, 4}},
		{"head, as many as may be", 5, 0, 0, []int{1, 2, 3, 4, 5}},
		{"head, one more", 6, 0, 0, []int{2, 3, 4, 5, 6}},
		{"change", 0, 2, 0, []int{1, 2}},
		{"stamp", 0, 0, 3, []int{1, 2, 3}},
		{"head is greatest", 9, 8, 7, []int{5, 6, 7, 8, 9}},
		{"change is", 7, 9, 8, []int{5, 6, 7, 8, 9}},
		{"stamp is", 7, 8, 9, []int{5, 6, 7, 8, 9}},
		{"great", 1<<40 - 3, 1 << 30, 0, []int{1<<40 - 7, 1<<40 - 6, 1<<40 - 5, 1<<40 - 4, 1<<40 - 3}},
	} {
		d, _ := formatted(t, small)
		h, _ := super.Load(d)
		h.Gen, h.Region = h.Gen+1, y.head
		need(t, "Save", super.Save(d, h), api.OK)
		if y.change > 0 {
			l, e := delta.Format(d, small)
			need(t, "Format", e, api.OK)
			need(t, "Add", l.Add(delta.Change{Hash: 1, Loc: region.Loc{Region: y.change, Size: 9}}, 0), api.OK)
			need(t, "Add", l.Add(delta.Change{Hash: 2, Loc: region.Loc{Region: 1, Size: 9}}, 0), api.OK)
			need(t, "Flush", l.Flush(0), api.OK)
		}
		if y.stamp > 0 {
			place := y.stamp%5*4 + 3
			need(t, "Put", leaf.Put(d, x.Region+place, leaf.Leaf{Kind: 3, Place: place, Stamp: y.stamp}), api.OK)
		}
		r, is := looks(t, y.name, d, small)
		if !is || !slices.Equal(regionsIn(r), y.want) || len(all(r)) != 0 {
			t.Errorf("%s: %+v, want %d", y.name, r.Regions, y.want)
		}
	}
}

// P19.1: of each region its records are told, up to the first sector that is not of it;
// of those that are written over nothing.
func TestRecords(t *testing.T) {
	d, c := formatted(t, small)
	value := func(n int) string { return fmt.Sprint("number ", n, " of some ", string(make([]byte, 80))) }
	for n := range 21 {
		set(t, c, "fox", value(n))
	}
	need(t, "Flush", c.Flush(), api.OK)
	r, _ := looks(t, "flushed", d, small)
	if !slices.Equal(regionsIn(r), []int{7, 8, 9, 10, 11}) {
		t.Fatalf("regions %d", regionsIn(r))
	}
	for n, x := range r.Regions {
		for m, y := range x.Records {
			if string(y.Key) != "fox" || string(y.Value) != value(12+2*n+m) || y.End != 0 {
				t.Errorf("region %d has %q", x.Number, textOf(x))
			}
		}
		if len(x.Records) != []int{2, 2, 2, 2, 1}[n] {
			t.Errorf("region %d has %q", x.Number, textOf(x))
		}
	}
	x, _ := plan.Fit(small)
	for sector, want := range []int{0, 0, 1, 2} {
		o := d.Copy()
		o.Rot(x.Region+9%5*4+sector, 60, 1)
		r, _ := looks(t, fmt.Sprint("sector ", sector, " rots"), o, small)
		if len(r.Regions) != 5 || len(r.Regions[2].Records) != want || len(all(r)) != 7+want {
			t.Errorf("sector %d rots: %+v", sector, r.Regions)
		}
	}
}

// P19.1: where no cache was formatted before, elder regions are there still, as a cache
// that is formatted there goes on behind them; elder changes are not.
func TestFormatAgain(t *testing.T) {
	d, c := formatted(t, small)
	fill(t, c, 40)
	need(t, "Flush", c.Flush(), api.OK)
	before, _ := looks(t, "before", d, small)
	need(t, "Tick", c.Tick(7), api.OK)
	c, e := cache.Format(d, small)
	need(t, "Format", e, api.OK)
	r, _ := looks(t, "again", d, small)
	if len(r.Changes) != 0 || r.Time != 0 || len(r.Slots) != 1 || Live(r) != 0 {
		t.Errorf("%+v", r)
	}
	if !slices.Equal(all(r), all(before)) || len(r.Regions) == 0 || c.Stats().Oldest != r.Regions[0].Number {
		t.Errorf("%+v, want %+v", r.Regions, before.Regions)
	}
	set(t, c, "fox", "red")
	need(t, "Flush", c.Flush(), api.OK)
	r, _ = looks(t, "set", d, small)
	if l := all(r); l[len(l)-1] != "fox=red/0" || len(r.Changes) != 1 {
		t.Errorf("%q, %+v", l, r.Changes)
	}
}

// P19.1: what the device reads counts, also what is loose; and what was loose counts as
// far as a crash does it.
func TestLoose(t *testing.T) {
	d, c := formatted(t, small)
	fill(t, c, 6)
	if d.Loose() == 0 {
		t.Fatal("nothing is loose")
	}
	if r, _ := looks(t, "loose", d, small); len(r.Changes) != 6 || len(r.Regions) != 1 || len(r.Regions[0].Records) == 0 {
		t.Errorf("%+v", r)
	}
	o := d.Copy()
	o.Crash(nil)
	if r, _ := looks(t, "none is done", o, small); len(r.Changes) != 0 || len(r.Regions) != 0 || len(Torn(o)) != 0 {
		t.Errorf("%+v", r)
	}
	o = d.Copy()
	o.Crash([]int{96, 40, 40, 95, 96, 96})
	if r, _ := looks(t, "torn", o, small); len(Torn(o)) == 0 {
		t.Errorf("%+v", r)
	}
}

// P19.1, R4: what is handed out is new memory, each list its own.
func TestHandedOut(t *testing.T) {
	d, c := formatted(t, small)
	fill(t, c, 30)
	need(t, "Checkpoint", c.Checkpoint(), api.OK)
	fill(t, c, 5)
	need(t, "Delete", c.Delete([]byte("key 1")), api.OK)
	need(t, "Flush", c.Flush(), api.OK)
	d.Rot(12, 3, 1)
	r, _ := looks(t, "first", d, small)
	torn := Torn(d)
	was, stands := fmt.Sprint(r), fmt.Sprint(torn)
	for n := range r.Slots {
		b := append(r.Slots[n].Bucket.Entries, r.Slots[0].Bucket.Entries...)
		clear(b[len(r.Slots[n].Bucket.Entries):])
	}
	for _, x := range r.Regions {
		for _, y := range x.Records {
			clear(append(y.Key, 1, 2, 3)[len(y.Key):])
			clear(append(y.Value, 1, 2, 3)[len(y.Value):])
		}
		clear(append(x.Records, record.Record{})[len(x.Records):])
	}
	clear(append(r.Pages, 1)[len(r.Pages):])
	if now := fmt.Sprint(r); now != was {
		t.Errorf("it shares: %s, was %s", now, was)
	}
	for _, x := range r.Slots[1:] {
		clear(x.Bucket.Entries)
	}
	if len(r.Slots[0].Bucket.Entries) > 0 && r.Slots[0].Bucket.Entries[0].Hash == 0 {
		t.Errorf("slots share their entries: %+v", r.Slots)
	}
	for _, x := range r.Regions {
		for _, y := range x.Records {
			clear(y.Key)
			clear(y.Value)
		}
		clear(x.Records)
	}
	clear(r.Slots)
	clear(r.Pages)
	clear(r.Changes)
	clear(r.Regions)
	clear(torn)
	r, _ = looks(t, "again", d, small)
	if now := fmt.Sprint(r); now != was || fmt.Sprint(Torn(d)) != stands {
		t.Errorf("%s, was %s", now, was)
	}
}

// P19.1: a cache that is looked at does what another one does.
func TestLookedAt(t *testing.T) {
	d, c := formatted(t, lean)
	o, other := formatted(t, lean)
	for n := range 60 {
		for _, x := range []*cache.Cache{c, other} {
			set(t, x, fmt.Sprint("key ", n%11), fmt.Sprint(n))
			if n%7 == 0 {
				need(t, "Flush", x.Flush(), api.OK)
			}
		}
		Look(d)
		Torn(d)
		if !same(d, o) || c.Stats() != other.Stats() {
			t.Fatalf("step %d: %+v, %+v", n, c.Stats(), other.Stats())
		}
	}
}
