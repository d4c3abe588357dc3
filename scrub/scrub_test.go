package scrub

import (
	"fmt"
	"math"
	"reflect"
	"slices"
	"testing"

	"sgraffito/api"
	"sgraffito/audit"
	"sgraffito/bucket"
	"sgraffito/cache"
	"sgraffito/delta"
	"sgraffito/flash"
	"sgraffito/index"
	"sgraffito/leaf"
	"sgraffito/mix"
	"sgraffito/plan"
	"sgraffito/region"
	"sgraffito/store"
	"sgraffito/super"
)

// small is the plan with which most is tried: regions of 308 bytes in 4 sectors of 77,
// a log of 5 sectors of 3 changes, buckets of 3 entries, up to 8 slots. flat has but
// one slot, lean up to 8, deep is like small, but has up to 32. wide has great numbers: up
// to 256 slots, buckets of 24 entries, regions of 7888 bytes.
var (
	small = plan.Plan{Sectors: 140, Size: 96, Regions: 5, RegionSectors: 4, LogSectors: 5, Depth: 3, Memory: 8, Seed: 7}
	flat  = plan.Plan{Sectors: 22, Size: 96, Regions: 3, RegionSectors: 1, LogSectors: 4, Depth: 0, Memory: 8}
	lean  = plan.Plan{Sectors: 49, Size: 96, Regions: 3, RegionSectors: 2, LogSectors: 4, Depth: 3, Memory: 8, Seed: math.MaxUint64}
	odd   = plan.Plan{Sectors: 147, Size: 131, Regions: 7, RegionSectors: 3, LogSectors: 9, Depth: 5, Memory: 11, Seed: 1 << 63}
	wide  = plan.Plan{Sectors: 2000, Size: 512, Regions: 8, RegionSectors: 16, LogSectors: 32, Depth: 8, Memory: 64, Seed: 99}
	deep  = plan.Plan{Sectors: 150, Size: 96, Regions: 5, RegionSectors: 4, LogSectors: 5, Depth: 5, Memory: 8, Seed: 7}
	plans = []plan.Plan{small, flat, lean, odd, deep, wide}
)

// need fails the test at once, if an error is another one.
func need(t *testing.T, name string, got, want api.Errno) {
	t.Helper()
	if got != want {
		t.Fatalf("%s: error %d, want %d", name, got, want)
	}
}

// formatted tells a cache on a new device.
func formatted(t *testing.T, p plan.Plan) (*flash.Device, *cache.Cache) {
	t.Helper()
	d := flash.New(p.Sectors, p.Size)
	c, e := cache.Format(d, p)
	need(t, "Format", e, api.OK)
	return d, c
}

// set sets a key, for good.
func set(t *testing.T, c *cache.Cache, key, value string) {
	t.Helper()
	need(t, "Set "+key, c.Set([]byte(key), []byte(value), 0), api.OK)
}

// flush makes all that was done last.
func flush(t *testing.T, c *cache.Cache) {
	t.Helper()
	need(t, "Flush", c.Flush(), api.OK)
}

// down lets a device go down.
func down(d *flash.Device) {
	d.Arm(1)
	d.Sync()
}

// same tells whether two devices are alike, their pasts and counts, too.
func same(x, y *flash.Device) bool { return reflect.DeepEqual(x.Copy(), y.Copy()) }

// number tells a key's, with the seed of small and deep.
func number(key string) uint64 { return mix.Hash(small.Seed, []byte(key)) }

// numbers tells those of keys, in order.
func numbers(keys ...string) (list []uint64) {
	for _, key := range keys {
		list = append(list, number(key))
	}
	slices.Sort(list)
	return list
}

// told holds a scrub to what it is to tell.
func told(t *testing.T, name string, d *flash.Device, want Result) {
	t.Helper()
	r, e := scrubs(t, name, d)
	need(t, name, e, api.OK)
	if fmt.Sprint(r) != fmt.Sprint(want) {
		t.Fatalf("%s: %v, want %v", name, r, want)
	}
}

// P26.1, and the example.
func TestExample(t *testing.T) {
	d, c := formatted(t, small)
	told(t, "empty", d, Result{})
	set(t, c, "k", "v")
	flush(t, c)
	told(t, "flushed", d, Result{Good: numbers("k"), Sound: []int{1}})
	need(t, "Checkpoint", c.Checkpoint(), api.OK)
	told(t, "checkpoint", d, Result{Good: numbers("k"), Sound: []int{1}})
	need(t, "Delete", c.Delete([]byte("k")), api.OK)
	flush(t, c)
	told(t, "deleted", d, Result{Sound: []int{1}})
}

// nothings tells devices of which a look tells an error.
func nothings(t *testing.T) map[string]*flash.Device {
	t.Helper()
	d, c := formatted(t, small)
	for n := range 9 {
		set(t, c, fmt.Sprint("key ", n), "v")
	}
	need(t, "Checkpoint", c.Checkpoint(), api.OK)
	_, pages, _ := c.Parts()
	x, _ := plan.Fit(small)
	o, page, heads := d.Copy(), d.Copy(), d.Copy()
	down(o)
	page.Rot(x.Page+pages[0], 3, 1)
	heads.Rot(0, 3, 1)
	heads.Rot(1, 3, 1)
	return map[string]*flash.Device{
		"no device": nil, "down": o, "nothing": flash.New(140, 96), "no page": page, "no heads": heads,
	}
}

// P26.1: Look's errors; nothing is told then.
func TestNothing(t *testing.T) {
	for name, d := range nothings(t) {
		r, e := scrubs(t, name, d)
		_, want := audit.Look(d)
		if e != want || e == api.OK || !reflect.DeepEqual(r, Result{}) {
			t.Errorf("%s: error %d, want %d: %v", name, e, want, r)
		}
	}
	if _, e := Scrub(nil); e != api.ErrArg {
		t.Errorf("no device: error %d", e)
	}
}

// P26.1: the numbers of each kind and of the regions are in order; a location is stale as
// soon as its region is not there any more, even if its sectors are not written over yet.
func TestStale(t *testing.T) {
	d, c := formatted(t, deep)
	long := string(make([]byte, 120))
	var keys []string
	for n := range 10 { // two to a region
		keys = append(keys, fmt.Sprint("key ", n))
		set(t, c, keys[n], long)
	}
	flush(t, c)
	told(t, "full", d, Result{Good: numbers(keys...), Sound: []int{1, 2, 3, 4, 5}})
	set(t, c, "more", "v")
	flush(t, c)
	good := numbers(append([]string{"more"}, keys[2:]...)...)
	told(t, "one more", d, Result{Good: good, Stale: numbers(keys[:2]...), Sound: []int{2, 3, 4, 5, 6}})
	if _, is := sector(d, deep, 1, 3); !is {
		t.Error("region 1 is written over")
	}
	need(t, "Delete", c.Delete([]byte(keys[0])), api.OK)
	set(t, c, keys[1], "v")
	flush(t, c)
	told(t, "set again", d, Result{Good: numbers(append([]string{"more"}, keys[1:]...)...), Sound: []int{2, 3, 4, 5, 6}})
}

// P26.1: what a sector that rots had is bad, what others have is not.
func TestBad(t *testing.T) {
	d, c := formatted(t, small)
	x, _ := plan.Fit(small)
	for _, key := range []string{"a", "b", "c", "d"} { // 63 bytes each, in 4 sectors of 77
		set(t, c, key, string(make([]byte, 49)))
	}
	flush(t, c)
	in := [][]string{{"a", "b"}, {"b", "c"}, {"c", "d"}, {"d"}}
	for n, bad := range in {
		o := d.Copy()
		o.Rot(x.Region+4+n, 95, 1)
		var good []string
		for _, key := range []string{"a", "b", "c", "d"} {
			if !slices.Contains(bad, key) {
				good = append(good, key)
			}
		}
		want := Result{Good: numbers(good...), Bad: numbers(bad...), Broken: []int{1}}
		if n == 3 {
			want.Sound, want.Broken = want.Broken, nil
		}
		told(t, fmt.Sprint("sector ", n), o, want)
	}
}

// P26.1: a location at which there is another record, or none, is bad, if its region is
// there; a record that has ended is good.
func TestAnother(t *testing.T) {
	d, c := formatted(t, small)
	set(t, c, "fox", "red")
	need(t, "Set", c.Set([]byte("owl"), []byte("grey"), 3), api.OK)
	need(t, "Tick", c.Tick(9), api.OK)
	flush(t, c)
	told(t, "ended", d, Result{Good: numbers("fox", "owl"), Sound: []int{1}})
	for name, at := range map[string]region.Loc{
		"of another key": {Region: 1, At: 19, Size: 20},
		"too long":       {Region: 1, Size: 20},
		"too short":      {Region: 1, Size: 18},
		"noughts":        {Region: 1, At: 50, Size: 19},
		"not written":    {Region: 1, At: 80, Size: 19},
		"beyond":         {Region: 1, At: 300, Size: 19},
		"nothing":        {Region: 1},
	} {
		o := d.Copy()
		change(t, o, delta.Change{Hash: number("fox"), Loc: at})
		told(t, name, o, Result{Good: numbers("owl"), Bad: numbers("fox"), Sound: []int{1}})
	}
	change(t, d, delta.Change{Hash: 5, Loc: region.Loc{Region: 1, Size: 19}})
	told(t, "of another number", d, Result{Good: numbers("fox", "owl"), Bad: []uint64{5}, Sound: []int{1}})
	change(t, d, delta.Change{Hash: 6})
	told(t, "no region", d, Result{Good: numbers("fox", "owl"), Stale: []uint64{6}, Bad: []uint64{5}, Sound: []int{1}})
	change(t, d, delta.Change{Hash: 7, Loc: region.Loc{Region: 6, Size: 19}})
	told(t, "written over", d, Result{Stale: slices.Concat([]uint64{5, 6}, numbers("fox", "owl")), Bad: []uint64{7}, Sound: []int{2, 3, 4, 5, 6}})
}

// change adds a change to the log of a device.
func change(t *testing.T, d *flash.Device, x delta.Change) {
	t.Helper()
	r, e := audit.Look(d)
	need(t, "Look", e, api.OK)
	l, _, _, e := delta.Open(d, small, r.Head.Log)
	need(t, "Open", e, api.OK)
	need(t, "Add", l.Add(x, r.Time), api.OK)
	need(t, "Flush", l.Flush(r.Time), api.OK)
}

// P26.1: a location in a region that was never begun is not stale, but bad.
func TestNotBegun(t *testing.T) {
	for last, want := range map[int]Result{
		0: {Stale: []uint64{1}, Bad: []uint64{2, 3}},
		1: {Stale: []uint64{1}, Bad: []uint64{2, 3}, Sound: []int{1}},
		2: {Stale: []uint64{1}, Bad: []uint64{2, 3}, Sound: []int{1, 2}},
		7: {Stale: []uint64{1, 2}, Bad: []uint64{3}, Sound: []int{3, 4, 5, 6, 7}},
	} {
		d := flash.New(140, 96)
		s, e := store.Format(d, small)
		need(t, "Format", e, api.OK)
		x, e := index.Format(s)
		need(t, "Format", e, api.OK)
		for n, q := range []int{0, 2, 9} {
			_, e := x.Put(bucket.Entry{Hash: uint64(n + 1), Loc: region.Loc{Region: q, Size: 19}}, 1)
			need(t, "Put", e, api.OK)
		}
		need(t, "Flush", s.Flush(), api.OK)
		need(t, "Save", super.Save(d, super.Head{Plan: small, Gen: 1, Root: x.Root(), Log: 1, Region: last}), api.OK)
		told(t, fmt.Sprint("last ", last), d, want)
	}
}

// P26.1: a region is broken just if a sector that is not of it stands ahead of one that
// is; whatever that sector is else.
func TestSound(t *testing.T) {
	d, c := formatted(t, small)
	x, _ := plan.Fit(small)
	for n := range 10 {
		set(t, c, fmt.Sprint("key ", n), string(make([]byte, 130)))
	}
	flush(t, c)
	want := func(pattern int) (sound, broken []int) {
		if slices.Contains([]int{0b0000, 0b1000, 0b1100, 0b1110, 0b1111}, pattern) {
			return []int{1, 2, 3, 4, 5}, nil
		}
		return []int{1, 2, 4, 5}, []int{3}
	}
	for pattern := range 16 { // which of four sectors are not of it
		for name, spoil := range map[string]func(d *flash.Device, at int){
			"rot":     func(d *flash.Device, at int) { d.Rot(at, 60, 1) },
			"noughts": func(d *flash.Device, at int) { d.Write(at, make([]byte, 96)) },
			"elder":   func(d *flash.Device, at int) { put(t, d, at, leaf.Leaf{Kind: 3, Place: at - x.Region, Stamp: 1}) },
			"kind":    func(d *flash.Device, at int) { put(t, d, at, leaf.Leaf{Kind: 4, Place: at - x.Region, Stamp: 3}) },
			"place":   func(d *flash.Device, at int) { put(t, d, at, leaf.Leaf{Kind: 3, Place: at - x.Region + 1, Stamp: 3}) },
		} {
			o := d.Copy()
			for n := range 4 {
				if pattern>>n&1 == 1 {
					spoil(o, x.Region+12+n)
				}
			}
			r, e := scrubs(t, name, o)
			need(t, name, e, api.OK)
			if sound, broken := want(pattern); !slices.Equal(r.Sound, sound) || !slices.Equal(r.Broken, broken) {
				t.Errorf("%s, pattern %04b: %v", name, pattern, r)
			}
		}
	}
}

// put writes a leaf to a sector.
func put(t *testing.T, d *flash.Device, at int, x leaf.Leaf) {
	t.Helper()
	need(t, "Put", leaf.Put(d, at, x), api.OK)
}

// P26.1, R4: what is handed out is new memory, each list its own.
func TestHandedOut(t *testing.T) {
	d, c := formatted(t, small)
	for n := range 12 {
		set(t, c, fmt.Sprint("key ", n), string(make([]byte, 120)))
	}
	flush(t, c)
	x, _ := plan.Fit(small)
	d.Rot(x.Region+3*4, 60, 1)
	r, e := scrubs(t, "first", d)
	need(t, "first", e, api.OK)
	if len(r.Good) == 0 || len(r.Stale) == 0 || len(r.Bad) == 0 || len(r.Sound) == 0 || len(r.Broken) == 0 {
		t.Fatalf("%v", r)
	}
	was := fmt.Sprint(r)
	for _, l := range [][]uint64{r.Good, r.Stale, r.Bad} {
		clear(append(l, 1, 2, 3)[len(l):])
	}
	for _, l := range [][]int{r.Sound, r.Broken} {
		clear(append(l, 1, 2, 3)[len(l):])
	}
	if fmt.Sprint(r) != was {
		t.Errorf("%v, was %s", r, was)
	}
	clear(r.Good)
	clear(r.Sound)
	if again, _ := scrubs(t, "again", d); fmt.Sprint(again) != was {
		t.Errorf("%v, was %s", again, was)
	}
}
