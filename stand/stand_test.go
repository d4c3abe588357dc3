package stand

import (
	"fmt"
	"reflect"
	"testing"

	"sgraffito/api"
	"sgraffito/audit"
	"sgraffito/cache"
	"sgraffito/delta"
	"sgraffito/flash"
	"sgraffito/mix"
	"sgraffito/plan"
	"sgraffito/region"
)

var small = plan.Plan{Sectors: 140, Size: 96, Regions: 5, RegionSectors: 4, LogSectors: 5, Depth: 3, Memory: 8, Seed: 7}

// need fails the test at once, if an error is another one.
func need(t *testing.T, name string, got, want api.Errno) {
	t.Helper()
	if got != want {
		t.Fatalf("%s: error %d, want %d", name, got, want)
	}
}

// formatted tells a cache on a new device.
func formatted(t *testing.T) (*flash.Device, *cache.Cache) {
	t.Helper()
	d := flash.New(140, 96)
	c, e := cache.Format(d, small)
	need(t, "Format", e, api.OK)
	return d, c
}

// set sets a key, for good.
func set(t *testing.T, c *cache.Cache, key, value string) {
	t.Helper()
	need(t, "Set "+key, c.Set([]byte(key), []byte(value), 0), api.OK)
}

// change adds a change to the log of a device.
func change(t *testing.T, d *flash.Device, x delta.Change) {
	t.Helper()
	r, e := audit.Look(d)
	need(t, "Look", e, api.OK)
	l, _, _, e := delta.Open(d, small, r.Head.Log)
	need(t, "Open", e, api.OK)
	need(t, "Add", l.Add(x, r.Time), api.OK)
	need(t, "Flush", l.Flush(r.Time), api.OK)
}

// number tells a key's.
func number(key string) uint64 { return mix.Hash(small.Seed, []byte(key)) }

// read tells what is read of a key's number: "-", if nothing is.
func read(s Stand, key string) string {
	x, is := s.Record(number(key))
	if !is {
		if !reflect.ValueOf(x).IsZero() {
			return "not zero"
		}
		return "-"
	}
	return fmt.Sprintf("%s=%s/%d", x.Key, x.Value, x.End)
}

// P25.1, P26.1: the errors of a look; nothing stands there then.
func TestErrors(t *testing.T) {
	d, c := formatted(t)
	set(t, c, "fox", "red")
	need(t, "Flush", c.Flush(), api.OK)
	down := d.Copy()
	down.Arm(1)
	down.Sync()
	lost := d.Copy()
	lost.Rot(1, 20, 1)
	for _, y := range []struct {
		name string
		d    *flash.Device
		e    api.Errno
	}{
		{"no device", nil, api.ErrArg},
		{"down", down, api.ErrDown},
		{"no head", lost, api.ErrLost},
		{"nothing", flash.New(140, 96), api.ErrLost},
	} {
		if s, e := On(y.d); e != y.e || !reflect.ValueOf(s).IsZero() {
			t.Errorf("%s: error %d, want %d: %+v", y.name, e, y.e, s)
		}
	}
}

// P25.1, P26.1: each number's location is that of the slots, and then of the changes, the
// last of which counts.
func TestLocations(t *testing.T) {
	d, c := formatted(t)
	for n := range 8 {
		set(t, c, fmt.Sprint("key ", n), "elder")
	}
	need(t, "Checkpoint", c.Checkpoint(), api.OK)
	for _, n := range []int{2, 3, 4, 3} {
		set(t, c, fmt.Sprint("key ", n), "newer")
	}
	set(t, c, "later", "newest")
	for _, key := range []string{"key 4", "key 5", "none"} {
		need(t, "Delete", c.Delete([]byte(key)), api.OK)
	}
	set(t, c, "key 5", "again")
	need(t, "Tick", c.Tick(6), api.OK)
	need(t, "Flush", c.Flush(), api.OK)
	r, e := audit.Look(d)
	need(t, "Look", e, api.OK)
	acts := d.Acts()
	s, e := On(d)
	need(t, "On", e, api.OK)
	if len(s.Locations) != 8 || fmt.Sprint(s.Report) != fmt.Sprint(r) || s.Regions.Last() != c.Stats().Where/308 || d.Acts() != acts {
		t.Errorf("%+v", s)
	}
	for key, want := range map[string]string{"key 0": "elder", "key 2": "newer", "key 3": "newer", "key 5": "again", "later": "newest"} {
		if got := read(s, key); got != key+"="+want+"/0" {
			t.Errorf("%s: %s, want %s", key, got, want)
		}
	}
	for _, key := range []string{"key 4", "none"} {
		if at, is := s.Locations[number(key)]; is || read(s, key) != "-" {
			t.Errorf("%s: %v, %s", key, at, read(s, key))
		}
	}
}

// P25.1, P26.1: what a bucket has no room for stands in the changes still.
func TestNoRoom(t *testing.T) {
	p := plan.Plan{Sectors: 22, Size: 96, Regions: 3, RegionSectors: 1, LogSectors: 4, Depth: 0, Memory: 8}
	d := flash.New(22, 96)
	c, e := cache.Format(d, p)
	need(t, "Format", e, api.OK)
	for n := range 8 {
		set(t, c, fmt.Sprint("key ", n), "v")
	}
	need(t, "Flush", c.Flush(), api.OK)
	s, e := On(d)
	need(t, "On", e, api.OK)
	if c.Stats().Lost == 0 || len(s.Locations) != 8 {
		t.Errorf("%+v, %v", c.Stats(), s.Locations)
	}
	for n := range 8 {
		if _, is := s.Record(mix.Hash(0, fmt.Append(nil, "key ", n))); !is {
			t.Errorf("key %d is not read", n)
		}
	}
}

// P25.1, P26.1: a record is read where just its bytes stand, of a key that has the
// number.
func TestRecord(t *testing.T) {
	d, c := formatted(t)
	set(t, c, "fox", "red")
	need(t, "Set owl", c.Set([]byte("owl"), []byte("grey"), 5), api.OK)
	need(t, "Flush", c.Flush(), api.OK)
	s, e := On(d)
	need(t, "On", e, api.OK)
	if read(s, "fox") != "fox=red/0" || read(s, "owl") != "owl=grey/5" || read(s, "hen") != "-" {
		t.Errorf("%s, %s, %s", read(s, "fox"), read(s, "owl"), read(s, "hen"))
	}
	fox, owl := s.Locations[number("fox")], s.Locations[number("owl")]
	for name, at := range map[string]region.Loc{
		"no room":        {Region: 1, At: 300, Size: 19},
		"no region":      {},
		"of another key": owl,
		"too long":       {Region: 1, At: fox.At, Size: fox.Size + 1},
		"too short":      {Region: 1, At: fox.At, Size: fox.Size - 1},
		"nothing":        {Region: 1, At: fox.At, Size: 0},
		"further on":     {Region: 1, At: fox.At + 1, Size: fox.Size},
		"noughts":        {Region: 1, At: 60, Size: 17},
		"not written":    {Region: 1, At: 77, Size: 19},
	} {
		o := d.Copy()
		change(t, o, delta.Change{Hash: number("fox"), Loc: at})
		s, e := On(o)
		need(t, name, e, api.OK)
		if s.Locations[number("fox")] != at || read(s, "fox") != "-" || read(s, "owl") != "owl=grey/5" {
			t.Errorf("%s: %v, %s, %s", name, s.Locations, read(s, "fox"), read(s, "owl"))
		}
	}
	change(t, d, delta.Change{Hash: number(""), Loc: region.Loc{Region: 1}})
	s, e = On(d)
	need(t, "On", e, api.OK)
	if _, is := s.Locations[number("")]; !is || read(s, "") != "-" {
		t.Errorf("nothing, of the number of no key: %v, %s", s.Locations, read(s, ""))
	}
}

// P25.1, P26.1: regions are opened behind what the changes tell, too: a region that such
// a one takes the place of is not there any more.
func TestRegions(t *testing.T) {
	d, c := formatted(t)
	set(t, c, "fox", "red")
	need(t, "Flush", c.Flush(), api.OK)
	change(t, d, delta.Change{Hash: 1, Loc: region.Loc{Region: 5, Size: 19}})
	s, e := On(d)
	need(t, "On", e, api.OK)
	if read(s, "fox") != "fox=red/0" || s.Regions.Oldest() != 1 || s.Regions.Last() != 5 {
		t.Errorf("%s, regions %d to %d", read(s, "fox"), s.Regions.Oldest(), s.Regions.Last())
	}
	change(t, d, delta.Change{Hash: 2, Loc: region.Loc{Region: 6, Size: 19}})
	s, e = On(d)
	need(t, "On", e, api.OK)
	if read(s, "fox") != "-" || s.Regions.Oldest() != 2 || s.Regions.Last() != 6 {
		t.Errorf("%s, regions %d to %d", read(s, "fox"), s.Regions.Oldest(), s.Regions.Last())
	}
}
