package dump

import (
	"bytes"
	"fmt"
	"math"
	"math/rand/v2"
	"reflect"
	"slices"
	"testing"

	"sgraffito/api"
	"sgraffito/audit"
	"sgraffito/cache"
	"sgraffito/delta"
	"sgraffito/flash"
	"sgraffito/mix"
	"sgraffito/plan"
	"sgraffito/record"
	"sgraffito/region"
)

// small is the plan with which most is tried: regions of 308 bytes in 4 sectors of 77,
// a log of 5 sectors of 3 changes, buckets of 3 entries, up to 8 slots. flat has but
// one slot, lean up to 8. wide has great numbers: up to 256 slots, buckets of 24 entries,
// regions of 7888 bytes.
var (
	small = plan.Plan{Sectors: 140, Size: 96, Regions: 5, RegionSectors: 4, LogSectors: 5, Depth: 3, Memory: 8, Seed: 7}
	flat  = plan.Plan{Sectors: 22, Size: 96, Regions: 3, RegionSectors: 1, LogSectors: 4, Depth: 0, Memory: 8}
	lean  = plan.Plan{Sectors: 49, Size: 96, Regions: 3, RegionSectors: 2, LogSectors: 4, Depth: 3, Memory: 8, Seed: math.MaxUint64}
	odd   = plan.Plan{Sectors: 147, Size: 131, Regions: 7, RegionSectors: 3, LogSectors: 9, Depth: 5, Memory: 11, Seed: 1 << 63}
	wide  = plan.Plan{Sectors: 2000, Size: 512, Regions: 8, RegionSectors: 16, LogSectors: 32, Depth: 8, Memory: 64, Seed: 99}
	plans = []plan.Plan{small, flat, lean, odd, wide}
)

// need fails the test at once, if an error is another one.
func need(t *testing.T, name string, got, want api.Errno) {
	t.Helper()
	if got != want {
		t.Fatalf("%s: error %d, want %d", name, got, want)
	}
}

// formatted tells a cache on a new device.
func formatted(t *testing.T, p plan.Plan) (*flash.Device, *cache.Cache) {
	t.Helper()
	d := flash.New(p.Sectors, p.Size)
	c, e := cache.Format(d, p)
	need(t, "Format", e, api.OK)
	return d, c
}

// set sets a key, to a value that lives so long.
func set(t *testing.T, c *cache.Cache, key, value string, ttl int) {
	t.Helper()
	need(t, "Set "+key, c.Set([]byte(key), []byte(value), ttl), api.OK)
}

// item tells one.
func item(key, value string, end int) Item { return Item{[]byte(key), []byte(value), end} }

// down lets a device go down.
func down(d *flash.Device) {
	d.Arm(1)
	d.Sync()
}

// same tells whether two devices are alike, their pasts and counts, too.
func same(x, y *flash.Device) bool { return reflect.DeepEqual(x.Copy(), y.Copy()) }

// told holds a dump to items.
func told(t *testing.T, name string, d *flash.Device, want ...Item) {
	t.Helper()
	l, e := takes(t, name, d)
	need(t, name, e, api.OK)
	if !slices.Equal(textsOf(l), textsOf(want)) {
		t.Fatalf("%s: %q, want %q", name, textsOf(l), textsOf(want))
	}
}

// P25.1, and the example: the items are in order of their keys.
func TestExample(t *testing.T) {
	for _, p := range plans {
		d, c := formatted(t, p)
		told(t, "empty", d)
		set(t, c, "b", "2", 0)
		set(t, c, "a", "1", 0)
		need(t, "Flush", c.Flush(), api.OK)
		told(t, "flushed", d, item("a", "1", 0), item("b", "2", 0))
	}
}

// P25.1: Look's errors, and no items then.
func TestNothing(t *testing.T) {
	d, c := formatted(t, small)
	for n := range 9 {
		set(t, c, fmt.Sprint("key ", n), "v", 0)
	}
	need(t, "Checkpoint", c.Checkpoint(), api.OK)
	_, pages, _ := c.Parts()
	x, _ := plan.Fit(small)
	o := d.Copy()
	down(o)
	page := d.Copy()
	page.Rot(x.Page+pages[0], 3, 1)
	heads := d.Copy()
	heads.Rot(0, 3, 1)
	heads.Rot(1, 3, 1)
	for _, y := range []struct {
		name string
		d    *flash.Device
		e    api.Errno
	}{
		{"no device", nil, api.ErrArg},
		{"down", o, api.ErrDown},
		{"nothing", flash.New(140, 96), api.ErrLost},
		{"no page", page, api.ErrLost},
		{"no heads", heads, api.ErrLost},
	} {
		before := y.d.Copy()
		if l, e := Take(y.d); e != y.e || l != nil {
			t.Errorf("%s: error %d, want %d: %v", y.name, e, y.e, l)
		}
		if y.d != nil && !same(y.d, before) {
			t.Errorf("%s: it is changed", y.name)
		}
	}
	heads.Rot(0, 3, 1)
	if l, e := takes(t, "one head", heads); e != api.OK {
		t.Errorf("one head: error %d, %q", e, textsOf(l))
	}
}

// P25.1: keys are in order byte by byte, a key ahead of those that begin with it.
func TestOrder(t *testing.T) {
	want := []string{"\x00", "\x00\x00", "A", "a", "a\x00", "a\x00b", "aa", "ab", "b", "\x7f", "\x80", "\xff", "\xff\x00", string(bytes.Repeat([]byte{255}, 64))}
	r := rand.New(rand.NewPCG(25, 1))
	for range 20 {
		d, c := formatted(t, wide)
		var l []Item
		for _, key := range want {
			l = append(l, item(key, "of "+key, 0))
		}
		for _, n := range r.Perm(len(want)) {
			set(t, c, want[n], "of "+want[n], 0)
			if r.IntN(5) == 0 {
				need(t, "Checkpoint", c.Checkpoint(), api.OK)
			}
		}
		need(t, "Flush", c.Flush(), api.OK)
		told(t, "mixed", d, l...)
	}
}

// P25.1: what was set last counts; what was deleted is not there; what has ended at the
// report's time is not, either.
func TestLast(t *testing.T) {
	d, c := formatted(t, small)
	set(t, c, "fox", "red", 0)
	set(t, c, "hen", "white", 7)
	set(t, c, "owl", "grey", 8)
	need(t, "Checkpoint", c.Checkpoint(), api.OK)
	told(t, "first", d, item("fox", "red", 0), item("hen", "white", 7), item("owl", "grey", 8))
	need(t, "Delete", c.Delete([]byte("fox")), api.OK)
	set(t, c, "hen", "", 9)
	need(t, "Tick", c.Tick(7), api.OK)
	told(t, "not flushed", d, item("fox", "red", 0), item("hen", "white", 7), item("owl", "grey", 8))
	need(t, "Flush", c.Flush(), api.OK)
	told(t, "flushed", d, item("hen", "", 9), item("owl", "grey", 8))
	need(t, "Tick", c.Tick(1), api.OK)
	need(t, "Flush", c.Flush(), api.OK)
	told(t, "the owl has ended", d, item("hen", "", 9))
	need(t, "Tick", c.Tick(1), api.OK)
	need(t, "Checkpoint", c.Checkpoint(), api.OK)
	told(t, "all have ended", d)
	set(t, c, "fox", "new", 0)
	set(t, c, "late", "v", api.MaxClock-9)
	need(t, "Flush", c.Flush(), api.OK)
	told(t, "again", d, item("fox", "new", 0), item("late", "v", api.MaxClock))
}

// P25.1: what stands in a region that is written over, or rotten, is not told; an elder
// value of that key neither.
func TestUnread(t *testing.T) {
	d, c := formatted(t, small)
	x, _ := plan.Fit(small)
	long := string(make([]byte, 200))
	set(t, c, "fox", "red", 0)
	set(t, c, "hen", "white", 0)
	need(t, "Checkpoint", c.Checkpoint(), api.OK)
	set(t, c, "fox", long, 0)
	need(t, "Flush", c.Flush(), api.OK)
	told(t, "flushed", d, item("fox", long, 0), item("hen", "white", 0))
	o := d.Copy()
	o.Rot(x.Region+4+2, 50, 1)
	told(t, "rotten", o, item("hen", "white", 0))
	o.Rot(x.Region+4, 50, 1)
	told(t, "both are", o)
	for n := range 4 {
		set(t, c, fmt.Sprint("key ", n), long, 0)
	}
	need(t, "Flush", c.Flush(), api.OK)
	if l, _ := takes(t, "full", d); len(l) != 6 {
		t.Errorf("%q", textsOf(l))
	}
	set(t, c, "one more", long, 0)
	need(t, "Flush", c.Flush(), api.OK)
	if l, _ := takes(t, "written over", d); len(l) != 5 || string(l[4].Key) != "one more" {
		t.Errorf("%q", textsOf(l))
	}
}

// P25.1: a record of a key of another number is none; nor is what is no record as it
// stands.
func TestAnother(t *testing.T) {
	d, c := formatted(t, small)
	set(t, c, "fox", "red", 0)
	set(t, c, "owl", "grey", 0)
	need(t, "Flush", c.Flush(), api.OK)
	fox := region.Loc{Region: 1, Size: 19}
	for _, y := range []struct {
		name string
		hash uint64
		at   region.Loc
		want int
	}{
		{"the same", mix.Hash(7, []byte("fox")), fox, 2},
		{"of another number", 5, fox, 2},
		{"of another key", mix.Hash(7, []byte("fox")), region.Loc{Region: 1, At: 19, Size: 20}, 1},
		{"of another seed", mix.Hash(0, []byte("fox")), fox, 2},
		{"longer", mix.Hash(7, []byte("fox")), region.Loc{Region: 1, Size: 20}, 1},
		{"shorter", mix.Hash(7, []byte("fox")), region.Loc{Region: 1, Size: 18}, 1},
	} {
		o := d.Copy()
		r, _ := audit.Look(o)
		l, _, _, e := delta.Open(o, small, r.Head.Log)
		need(t, y.name, e, api.OK)
		need(t, y.name, l.Add(delta.Change{Hash: y.hash, Loc: y.at}, 0), api.OK)
		need(t, y.name, l.Flush(0), api.OK)
		if l, _ := takes(t, y.name, o); len(l) != y.want {
			t.Errorf("%s: %q", y.name, textsOf(l))
		}
	}
}

// P25.1: what a bucket has no room for is there, too, as long as the changes have it.
func TestNoRoom(t *testing.T) {
	d, c := formatted(t, flat)
	for n := range 8 {
		set(t, c, fmt.Sprint("key ", n), "v", 0)
	}
	need(t, "Flush", c.Flush(), api.OK)
	if l, _ := takes(t, "flushed", d); len(l) != 8 || c.Stats().Lost == 0 {
		t.Errorf("%q, %+v", textsOf(l), c.Stats())
	}
	need(t, "Checkpoint", c.Checkpoint(), api.OK)
	if l, _ := takes(t, "checkpoint", d); len(l) != 3 {
		t.Errorf("%q", textsOf(l))
	}
}

// P25.1: items are packed as records, one behind the other, and unpacked as they were.
func TestPack(t *testing.T) {
	l := []Item{item("k", "v", 0), item("key", "", 300), item(string(make([]byte, 64)), string(make([]byte, 4096)), api.MaxClock), item("k", "v", 0)}
	want := []byte{165, 1, 1, 0, 0, 0, 0, 0, 0, 0, 0, 0, 'k', 'v', 90}
	want = append(want, 165, 3, 0, 0, 44, 1, 0, 0, 0, 0, 0, 0, 'k', 'e', 'y', 90)
	want = append(want, 165, 64, 0, 16, 0, 0, 0, 0, 0, 0, 1, 0)
	want = append(want, make([]byte, 64+4096)...)
	want = append(want, 90, 165, 1, 1, 0, 0, 0, 0, 0, 0, 0, 0, 0, 'k', 'v', 90)
	b, e := Pack(l)
	if e != api.OK || !bytes.Equal(b, want) {
		t.Fatalf("error %d, %d bytes, want %d: %d", e, len(b), len(want), b[:min(len(b), 60)])
	}
	if o, e := Unpack(b); e != api.OK || !slices.Equal(textsOf(o), textsOf(l)) {
		t.Errorf("error %d, %q", e, textsOf(o))
	}
	b, e = Pack(nil)
	if o, f := Unpack(b); e != api.OK || f != api.OK || len(b) != 0 || len(o) != 0 {
		t.Errorf("none: %d, %d; %d, %v", e, f, b, o)
	}
}

// P25.1: the error of the first record that may not be; nothing is packed then.
func TestNoPack(t *testing.T) {
	right := item("k", "v", 1)
	key, value, end := Item{}, item("k", string(make([]byte, 4097)), 0), item("k", "v", -1)
	for _, y := range []struct {
		name string
		l    []Item
		e    api.Errno
	}{
		{"no key", []Item{key}, api.ErrKey},
		{"too long a key", []Item{item(string(make([]byte, 65)), "", 0)}, api.ErrKey},
		{"too long a value", []Item{value}, api.ErrValue},
		{"too early an end", []Item{end}, api.ErrRange},
		{"too late an end", []Item{item("k", "v", api.MaxClock+1)}, api.ErrRange},
		{"all of one", []Item{{nil, make([]byte, 4097), -1}}, api.ErrKey},
		{"the first of three", []Item{right, value, key, end}, api.ErrValue},
		{"the last", []Item{right, right, end}, api.ErrRange},
	} {
		if b, e := Pack(y.l); e != y.e || b != nil {
			t.Errorf("%s: error %d, want %d: %d", y.name, e, y.e, b)
		}
	}
}

// P25.1: ErrForm of what is no records, one behind the other, with nothing between.
func TestNoUnpack(t *testing.T) {
	one, _ := Pack([]Item{item("k", "v", 9)})
	two, _ := Pack([]Item{item("k", "v", 9), item("fox", "red", 0)})
	for name, b := range map[string][]byte{
		"a nought":          {0},
		"a nought behind":   append(slices.Clone(one), 0),
		"a nought ahead":    append([]byte{0}, one...),
		"a nought between":  slices.Concat(one, []byte{0}, one),
		"something between": slices.Concat(one, []byte{7}, one),
		"a piece behind":    slices.Concat(one, one[:14]),
		"none":              []byte("none"),
		"another end":       slices.Concat(one, one[:14], []byte{91}),
		"too late an end":   slices.Concat(one[:10], []byte{1, 1}, one[12:]),
	} {
		if l, e := Unpack(b); e != api.ErrForm || l != nil {
			t.Errorf("%s: error %d: %q", name, e, textsOf(l))
		}
	}
	for n := range two {
		l, e := Unpack(two[:n])
		if whole := n == 0 || n == len(one); whole != (e == api.OK) || !whole && e != api.ErrForm || len(l) != 0 && n != len(one) {
			t.Errorf("%d bytes: error %d: %q", n, e, textsOf(l))
		}
	}
}

// P25.1: whatever is unpacked of bytes that were spoilt is packed as just these.
func TestSpoilt(t *testing.T) {
	r := rand.New(rand.NewPCG(25, 2))
	right := 0
	for range 20000 {
		var l []Item
		for range r.IntN(4) {
			l = append(l, item(string(make([]byte, 1+r.IntN(9))), string(make([]byte, r.IntN(9))), r.IntN(3)))
		}
		b, e := Pack(l)
		need(t, "Pack", e, api.OK)
		for range r.IntN(3) {
			switch n := r.IntN(len(b) + 1); r.IntN(3) {
			case 0:
				b = slices.Insert(b, n, byte(r.IntN(256)))
			case 1:
				b = slices.Delete(b, n, min(n+1, len(b)))
			default:
				b = slices.Concat(b[:n], bytes.Repeat([]byte{byte(r.IntN(256))}, min(1, len(b)-n)), b[min(n+1, len(b)):])
			}
		}
		l, e = Unpack(b)
		if again, f := Pack(l); e == api.OK && (f != api.OK || !bytes.Equal(again, b)) || e != api.OK && (e != api.ErrForm || l != nil) {
			t.Fatalf("%d: error %d, %q; %d", b, e, textsOf(l), again)
		}
		if e == api.OK {
			right++
		}
	}
	if right < 5000 || right > 15000 {
		t.Errorf("%d of 20000 were right", right)
	}
}

// P25.1, R4: what is handed in is not changed and not kept; what is handed out is new
// memory.
func TestHandedOut(t *testing.T) {
	d, c := formatted(t, small)
	set(t, c, "fox", "red", 0)
	set(t, c, "hen", "white", 9)
	need(t, "Flush", c.Flush(), api.OK)
	want := []Item{item("fox", "red", 0), item("hen", "white", 9)}
	l, _ := Take(d)
	b, _ := Pack(l)
	packed := slices.Clone(b)
	o, _ := Unpack(b)
	clear(b)
	if !slices.Equal(textsOf(o), textsOf(want)) || !slices.Equal(textsOf(l), textsOf(want)) {
		t.Errorf("%q, %q", textsOf(o), textsOf(l))
	}
	clear(append(o[0].Key, 1, 2, 3)[3:])
	clear(append(o[0].Value, 1, 2, 3)[3:])
	clear(append(l[0].Key, 1, 2, 3)[3:])
	clear(append(l[0].Value, 1, 2, 3)[3:])
	if !slices.Equal(textsOf(o), textsOf(want)) || !slices.Equal(textsOf(l), textsOf(want)) {
		t.Errorf("%q, %q", textsOf(o), textsOf(l))
	}
	_, other := formatted(t, small)
	spare := append(slices.Clone(l), item("spare", "room", 0))
	if n, e := Give(other, spare[:2]); n != 2 || e != api.OK || string(spare[2].Key) != "spare" {
		t.Errorf("Give: %d, error %d, %q", n, e, textsOf(spare))
	}
	if again, _ := Pack(l); !bytes.Equal(again, packed) {
		t.Errorf("%q", textsOf(l))
	}
	for _, x := range l {
		clear(x.Key)
		clear(x.Value)
	}
	if v, is, _ := other.Get([]byte("fox")); !is || string(v) != "red" {
		t.Errorf("fox: %q, %v", v, is)
	}
	told(t, "again", d, want...)
}

// gives holds a Give to what it is to tell.
func gives(t *testing.T, name string, c *cache.Cache, l []Item, given int, e api.Errno) {
	t.Helper()
	if n, f := Give(c, l); n != given || f != e {
		t.Errorf("%s: %d, error %d, want %d, error %d", name, n, f, given, e)
	}
}

// P25.2: each item is set, one behind the other, with what is left of its end, and for
// good, if it has none; one that has ended is passed over, even if it might not be set.
func TestGive(t *testing.T) {
	l := []Item{
		item("a", "1", 0), item("b", "2", 10), item("c", "3", 11), item("d", "4", 9), item("e", "5", -1),
		item("f", "6", api.MaxClock), item("a", "7", 20), {nil, nil, 10}, item("g", "8", 0), {nil, nil, math.MinInt},
	}
	for _, p := range plans {
		d, c := formatted(t, p)
		o, by := formatted(t, p)
		need(t, "Tick", c.Tick(10), api.OK)
		need(t, "Tick", by.Tick(10), api.OK)
		gives(t, "none", c, nil, 0, api.OK)
		gives(t, "some have ended", c, l, 5, api.OK)
		set(t, by, "a", "1", 0)
		set(t, by, "c", "3", 1)
		set(t, by, "f", "6", api.MaxClock-10)
		set(t, by, "a", "7", 10)
		set(t, by, "g", "8", 0)
		if !same(d, o) || c.Stats() != by.Stats() || !slices.Equal(c.Counts(), by.Counts()) {
			t.Errorf("%+v, %d, want %+v, %d", c.Stats(), c.Counts(), by.Stats(), by.Counts())
		}
		need(t, "Checkpoint", c.Checkpoint(), api.OK)
		need(t, "Checkpoint", by.Checkpoint(), api.OK)
		if !same(d, o) {
			t.Errorf("plan %d: behind a checkpoint they are not alike", p.Sectors)
		}
	}
}

// P25.2: the first error of a Set; nothing more is set then.
func TestNoGive(t *testing.T) {
	a, b := item("a", "1", 0), item("b", "2", 0)
	for _, y := range []struct {
		name string
		x    Item
		e    api.Errno
	}{
		{"no key", Item{}, api.ErrKey},
		{"too long a key", item(string(make([]byte, 65)), "", 0), api.ErrKey},
		{"too long a value", item("k", string(make([]byte, 4097)), 0), api.ErrValue},
		{"too late an end", item("k", "v", api.MaxClock+1), api.ErrRange},
		{"the last end", item("k", "v", math.MaxInt), api.ErrRange},
		{"longer than a region", item("k", string(make([]byte, 295)), 0), api.ErrLong},
	} {
		for _, time := range []int{0, 1, 99, api.MaxClock} {
			d, c := formatted(t, small)
			need(t, "Tick", c.Tick(time), api.OK)
			gives(t, y.name, c, []Item{y.x, a}, 0, y.e)
			gives(t, y.name, c, []Item{a, y.x, b, {}}, 1, y.e)
			if v, is, _ := c.Get([]byte("a")); !is || string(v) != "1" || c.Dead() || c.Counts()[2] != 1 {
				t.Errorf("%s: %q, %v, sets %d", y.name, v, is, c.Counts()[2])
			}
			need(t, "Flush", c.Flush(), api.OK)
			told(t, y.name, d, a)
		}
	}
	_, c := formatted(t, small)
	gives(t, "as long as a region", c, []Item{item("k", string(make([]byte, 294)), api.MaxClock)}, 1, api.OK)
}

// P25.2: of no cache ErrArg, if an item is to be set; of a dead one ErrState; of one whose
// device goes down ErrDown, behind those that were set.
func TestNoCache(t *testing.T) {
	gives(t, "no cache, no item", nil, nil, 0, api.OK)
	gives(t, "no cache, none that lasts", nil, []Item{item("k", "v", -5), {nil, nil, math.MinInt}}, 0, api.OK)
	gives(t, "no cache", nil, []Item{item("k", "v", -5), item("k", "v", 1)}, 0, api.ErrArg)
	gives(t, "no cache, no key", nil, []Item{{}}, 0, api.ErrArg)
	d, c := formatted(t, small)
	var l []Item
	for n := range 40 {
		l = append(l, item(fmt.Sprint("key ", n), "some value", 0))
	}
	d.Arm(9)
	given, e := Give(c, l)
	need(t, "armed", e, api.ErrDown)
	if !c.Dead() || given < 3 || given > 30 {
		t.Errorf("%d were set", given)
	}
	gives(t, "dead", c, l, 0, api.ErrState)
	gives(t, "dead, no item", c, nil, 0, api.OK)
	d.Crash([]int{96, 96, 96, 96, 96, 96, 96, 96, 96})
	o, e := takes(t, "crashed", d)
	need(t, "crashed", e, api.OK)
	if len(o) == 0 || len(o) > given+1 {
		t.Errorf("%q of %d", textsOf(o), given)
	}
}

// P25.3: what was taken and given to an empty cache, of whatever plan and time, is got
// there.
func TestTakenAndGiven(t *testing.T) {
	d, c := formatted(t, odd)
	for n := range 20 {
		set(t, c, fmt.Sprint("key ", n), fmt.Sprint("value ", n), n%3*(n+5))
	}
	need(t, "Tick", c.Tick(9), api.OK)
	need(t, "Flush", c.Flush(), api.OK)
	l, e := takes(t, "flushed", d)
	need(t, "Take", e, api.OK)
	if len(l) < 15 || len(l) > 19 {
		t.Fatalf("%q", textsOf(l))
	}
	b, e := Pack(l)
	need(t, "Pack", e, api.OK)
	for _, p := range []plan.Plan{odd, wide} {
		for _, time := range []int{0, 9, 16} {
			to, o := formatted(t, p)
			need(t, "Tick", o.Tick(time), api.OK)
			l, e := Unpack(b)
			need(t, "Unpack", e, api.OK)
			given, e := Give(o, l)
			need(t, "Give", e, api.OK)
			lasting := slices.DeleteFunc(l, func(x Item) bool { return record.Ended(x.End, time) })
			if given != len(lasting) || o.Stats().Lost != 0 {
				t.Errorf("time %d: %d were set, want %d; %+v", time, given, len(lasting), o.Stats())
			}
			for _, x := range lasting {
				if v, is, e := o.Get(x.Key); e != api.OK || !is || !bytes.Equal(v, x.Value) {
					t.Errorf("time %d: %s: %q, %v", time, x.Key, v, is)
				}
			}
			need(t, "Flush", o.Flush(), api.OK)
			told(t, "given", to, lasting...)
		}
	}
}
