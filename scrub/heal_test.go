package scrub

import (
	"fmt"
	"math/rand/v2"
	"reflect"
	"slices"
	"testing"

	"sgraffito/api"
	"sgraffito/audit"
	"sgraffito/cache"
	"sgraffito/dump"
	"sgraffito/flash"
	"sgraffito/mix"
	"sgraffito/plan"
	"sgraffito/stand"
)

// textsOf tells items.
func textsOf(l []dump.Item) (list []string) {
	for _, x := range l {
		list = append(list, fmt.Sprintf("%x %x/%d", x.Key, x.Value, x.End))
	}
	return list
}

// taken tells a device's dump.
func taken(t *testing.T, name string, d *flash.Device) []dump.Item {
	t.Helper()
	l, e := dump.Take(d)
	need(t, name+": Take", e, api.OK)
	return l
}

// healed heals a device, and tells its items. Behind it nothing is bad or stale, the plan
// and the time are as they were, what is there is a cache's, and its items are those that
// were there, all of them, if each bucket has room for its own.
func healed(t *testing.T, name string, d *flash.Device) []dump.Item {
	t.Helper()
	before, e := audit.Look(d)
	need(t, name+": Look", e, api.OK)
	l := taken(t, name, d)
	n, e := Heal(d)
	need(t, name+": Heal", e, api.OK)
	if n != len(l) {
		t.Fatalf("%s: %d were given of %q", name, n, textsOf(l))
	}
	behind, e := audit.Look(d)
	need(t, name+": Look", e, api.OK)
	if behind.Head.Plan != before.Head.Plan || behind.Time != before.Time || len(behind.Changes) != 0 || d.Loose() != 0 {
		t.Fatalf("%s: %+v, was %+v", name, behind, before)
	}
	r, e := scrubs(t, name+", healed", d)
	need(t, name+": Scrub", e, api.OK)
	got := taken(t, name, d)
	if len(r.Bad) > 0 || len(r.Stale) > 0 || len(r.Good) != len(got) {
		t.Fatalf("%s: %v, items %q", name, r, textsOf(got))
	}
	for _, x := range textsOf(got) {
		if !slices.Contains(textsOf(l), x) {
			t.Fatalf("%s: %q is new", name, x)
		}
	}
	if len(got) != len(l) && haveBucketsRoom(before.Head.Plan, l) {
		t.Fatalf("%s: %q, were %q", name, textsOf(got), textsOf(l))
	}
	return got
}

// haveBucketsRoom tells whether none of some items is lost for lack of room in a bucket.
func haveBucketsRoom(p plan.Plan, l []dump.Item) bool {
	x, _ := plan.Fit(p)
	count := map[int]int{}
	for _, y := range l {
		count[mix.Prefix(mix.Hash(p.Seed, y.Key), p.Depth)]++
	}
	for _, n := range count {
		if n > x.Slots {
			return false
		}
	}
	return true
}

// gets holds what a cache that is opened tells to items.
func gets(t *testing.T, name string, d *flash.Device, l []dump.Item) {
	t.Helper()
	c, e := cache.Open(d)
	need(t, name+": Open", e, api.OK)
	for _, x := range l {
		if v, is, e := c.Get(x.Key); e != api.OK || !is || string(v) != string(x.Value) {
			t.Fatalf("%s: %s is %q, %v, want %q", name, x.Key, v, is, x.Value)
		}
	}
}

// P26.2: Look's errors; the device is as it was then.
func TestNoHeal(t *testing.T) {
	for name, d := range nothings(t) {
		before := d.Copy()
		n, e := Heal(d)
		if _, want := audit.Look(d); n != 0 || e != want || e == api.OK {
			t.Errorf("%s: %d, error %d, want %d", name, n, e, want)
		}
		if d != nil && !same(d, before) {
			t.Errorf("%s: it is changed", name)
		}
	}
	if n, e := Heal(nil); n != 0 || e != api.ErrArg {
		t.Errorf("no device: %d, error %d", n, e)
	}
}

// P26.2: the device is formatted by its plan, its time goes on, its items are given, and
// there is a checkpoint; so what is on it then is what these calls make of it.
func TestHeal(t *testing.T) {
	for _, p := range plans {
		for seed := range uint64(6) {
			d, c := formatted(t, p)
			w := &walker{p, d, c, rand.New(rand.NewPCG(seed, 26)), true}
			for range 10 + 8*int(seed) {
				w.step(t, "walk")
			}
			flush(t, c)
			r, e := audit.Look(d)
			need(t, "Look", e, api.OK)
			l := taken(t, "flushed", d)
			o := d.Copy()
			by, e := cache.Format(o, p)
			need(t, "Format", e, api.OK)
			first := by.Stats().Where / ((p.Size - 19) * p.RegionSectors)
			need(t, "Tick", by.Tick(r.Time), api.OK)
			_, e = dump.Give(by, l)
			need(t, "Give", e, api.OK)
			need(t, "Checkpoint", by.Checkpoint(), api.OK)
			healed(t, "heal", d)
			if by.Stats().Oldest <= first && !same(d, o) {
				t.Errorf("plan %d, seed %d: they are not alike", p.Sectors, seed)
			}
		}
	}
}

// P26.2: the time goes on to the report's: so ends are as they were, and what has ended is
// not given.
func TestTime(t *testing.T) {
	d, c := formatted(t, small)
	for n := range 6 {
		need(t, "Set", c.Set([]byte{'k', byte(n)}, []byte{byte(n)}, n), api.OK)
	}
	need(t, "Tick", c.Tick(3), api.OK)
	flush(t, c)
	l := healed(t, "heal", d)
	if len(l) != 3 || l[0].End != 0 || l[1].End != 4 || l[2].End != 5 {
		t.Errorf("%v", l)
	}
	c, e := cache.Open(d)
	need(t, "Open", e, api.OK)
	for n := range 4 {
		for k, end := range []int{0, 4, 5} {
			if _, is, e := c.Get(l[k].Key); e != api.OK || is != (end == 0 || 3+n < end) {
				t.Errorf("at %d: %v, %v", 3+n, l[k], is)
			}
		}
		need(t, "Tick", c.Tick(1), api.OK)
	}
	if c.Stats().Time != 7 {
		t.Errorf("%+v", c.Stats())
	}
}

// P26.2: what is not given stays away, even if it could be read again.
func TestGone(t *testing.T) {
	d, c := formatted(t, deep)
	x, _ := plan.Fit(deep)
	for n := range 6 { // three to a region
		set(t, c, fmt.Sprint("key ", n), string(make([]byte, 60)))
	}
	flush(t, c)
	d.Rot(x.Region+4+1, 33, 16)
	l := healed(t, "heal", d)
	d.Rot(x.Region+4+1, 33, 16)
	if again := taken(t, "rotten back", d); len(l) != 4 || !slices.Equal(textsOf(again), textsOf(l)) {
		t.Errorf("%q, %q", textsOf(l), textsOf(again))
	}
	gets(t, "opened", d, l)
	if n, e := Heal(d); n != 4 || e != api.OK {
		t.Errorf("again: %d, error %d", n, e)
	}
}

// P26.2: ErrDown, wherever the device goes down; nothing is told to be given then.
func TestHealDown(t *testing.T) {
	d, c := formatted(t, small)
	for n := range 9 {
		set(t, c, fmt.Sprint("key ", n), string(make([]byte, 60)))
	}
	flush(t, c)
	o := d.Copy()
	healed(t, "heal", o)
	acts := o.Acts() - d.Acts()
	for n := 1; n <= acts; n++ {
		o := d.Copy()
		o.Arm(n)
		if given, e := Heal(o); given != 0 || e != api.ErrDown || !o.Down() {
			t.Fatalf("%d of %d acts: %d, error %d", n, acts, given, e)
		}
	}
	o = d.Copy()
	o.Arm(acts + 1)
	if n, e := Heal(o); n != 9 || e != api.OK || o.Down() {
		t.Errorf("%d acts: %d, error %d", acts, n, e)
	}
	if e := o.Sync(); e != api.ErrDown {
		t.Errorf("one act more: error %d", e)
	}
}

// P26.3: what fills the regions in the order in which it was set is read still, even if
// in the order of its keys it would not go into them.
func TestFull(t *testing.T) {
	d, c := formatted(t, deep)
	for n := range 5 { // 208 and 100 of a region's 308 bytes
		set(t, c, fmt.Sprint("a", n), string(make([]byte, 193)))
		set(t, c, fmt.Sprint("b", n), string(make([]byte, 85)))
	}
	flush(t, c)
	if l := healed(t, "full", d); len(l) != 10 {
		t.Errorf("%q", textsOf(l))
	}
	for n := range 3 {
		l := taken(t, "again", d)
		if healed(t, fmt.Sprint("again ", n), d); len(l) != 10 {
			t.Errorf("%q", textsOf(l))
		}
	}
	gets(t, "opened", d, taken(t, "healed", d))
}

// P26.3: what was set with a checkpoint just where each region was full is read still,
// even if a sector would be filled at another place as soon as the log is full.
func TestFullLog(t *testing.T) {
	d, c := formatted(t, narrow)
	for n := range 4 * 27 { // 27 records of 19 bytes, of 519, and 28 changes to a log
		set(t, c, fmt.Sprintf("%03d", n*37%108), "red")
		if n%27 == 26 {
			need(t, "Checkpoint", c.Checkpoint(), api.OK)
		}
	}
	s, e := stand.On(d)
	need(t, "On", e, api.OK)
	l := taken(t, "full", d)
	for _, row := range [][]dump.Item{l, slices.Concat(asTheyStand(s, l)...)} {
		if haveRoom(s.Report, [][]dump.Item{row}) {
			t.Error("in one row they go in")
		}
	}
	if got := healed(t, "full", d); len(l) != 108 || len(got) != 108 {
		t.Errorf("%d, were %d", len(got), len(l))
	}
}

// P26.2, P26.3: rows are as the dump is, if that goes in; else they are in the order in
// which items stand, cut only where sectors end.
func TestRows(t *testing.T) {
	d, c := formatted(t, deep)
	for n := range 9 {
		set(t, c, fmt.Sprint("b", 9-n), string(make([]byte, 62-n)))
	}
	flush(t, c)
	set(t, c, "a1", "")
	set(t, c, "a0", "")
	flush(t, c)
	s, e := stand.On(d)
	need(t, "On", e, api.OK)
	l := taken(t, "flushed", d)
	if rows := rowsOf(s, l); len(rows) != 1 || !reflect.DeepEqual(rows[0], l) {
		t.Errorf("%v", rows)
	}
	var told []string
	for _, row := range asTheyStand(s, l) {
		for _, x := range row {
			told = append(told, string(x.Key))
		}
		told = append(told, "|")
	}
	// 77, 76, 75, 74 bytes in region 1; 73, 72, 71, 70 in region 2; 69, and 15, 15 behind a flush in region 3
	if want := []string{"b9", "|", "b8", "b7", "b6", "|", "b5", "b4", "b3", "b2", "|", "b1", "|", "a1", "a0", "|"}; !slices.Equal(told, want) {
		t.Errorf("%q, want %q", told, want)
	}
}
