package cache

import (
	"fmt"
	"math/rand/v2"
	"slices"
	"testing"

	"sgraffito/api"
	"sgraffito/flash"
	"sgraffito/index"
	"sgraffito/leaf"
	"sgraffito/plan"
	"sgraffito/store"
	"sgraffito/super"
)

// deed is a Set or a Delete of a key, and tale all of these, the eldest first, and of
// each key from which one on they may be told behind a crash: the last one that was
// flushed.
type deed struct {
	value string
	drop  bool
}
type tale struct {
	deeds map[string][]deed
	from  map[string]int
	all   map[string]map[string]int // all values that were ever set for each key
}

func newTale() *tale {
	return &tale{map[string][]deed{}, map[string]int{}, map[string]map[string]int{}}
}

// does says that something is under way for a key.
func (x *tale) does(key string, y deed) {
	x.deeds[key] = append(x.deeds[key], y)
	if x.all[key] == nil {
		x.all[key] = map[string]int{}
	}
	if !y.drop {
		x.all[key][y.value]++
	}
}

// flushed says that a flush, or a checkpoint, told OK.
func (x *tale) flushed() {
	for key, list := range x.deeds {
		x.from[key] = len(list) - 1
	}
}

// set and del do it, and tell whether the device did.
func (x *tale) set(t *testing.T, c *Cache, key, value string, ttl int) bool {
	t.Helper()
	x.does(key, deed{value: value})
	return did(t, "Set", c.Set([]byte(key), []byte(value), ttl))
}
func (x *tale) del(t *testing.T, c *Cache, key string) bool {
	t.Helper()
	x.does(key, deed{drop: true})
	return did(t, "Delete", c.Delete([]byte(key)))
}

// flush does it, or makes a checkpoint.
func (x *tale) flush(t *testing.T, c *Cache, all bool) bool {
	t.Helper()
	e := api.OK
	if all {
		e = c.Checkpoint()
	} else {
		e = c.Flush()
	}
	if e == api.OK {
		x.flushed()
	}
	return did(t, "Flush", e)
}

// did tells whether the device did something: no other error may be told.
func did(t *testing.T, name string, e api.Errno) bool {
	t.Helper()
	if e != api.OK && e != api.ErrDown {
		t.Fatalf("%s: error %d", name, e)
	}
	return e == api.OK
}

// opens opens what is there behind a crash, and holds it to P18.5. As there is a
// checkpoint then, nothing elder than what is told may be told from then on.
func (x *tale) opens(t *testing.T, name string, d *flash.Device, keys []string) *Cache {
	t.Helper()
	c := opened(t, name, d)
	for _, key := range keys {
		v, is, e := c.Get([]byte(key))
		need(t, name+": Get", e, api.OK)
		list := x.deeds[key][x.from[key]:]
		at := slices.Index(list, deed{value: string(v)})
		if is && at < 0 {
			t.Fatalf("%s: Get %q: %q, want one of %v", name, key, v, list)
		}
		x.deeds[key], x.from[key] = []deed{{drop: true}}, 0
		if is {
			x.deeds[key] = list[at : at+1]
		}
	}
	return c
}

// oneHead holds a device to P18.6: while both heads are right, each may rot; what is
// told then was set for its key.
func (x *tale) oneHead(t *testing.T, name string, d *flash.Device, keys []string) int {
	t.Helper()
	if len(super.Heads(d)) < 2 {
		return 0
	}
	for at := range 2 {
		o := d.Copy()
		o.Rot(at, 60, 32)
		for range 2 {
			x.allSet(t, fmt.Sprint(name, ", head ", at, " rots"), opened(t, name+", one head", o), keys)
			o.Crash(nil)
		}
	}
	return 1
}

// allSet holds what is told to having been set. It tells how much was told.
func (x *tale) allSet(t *testing.T, name string, c *Cache, keys []string) int {
	t.Helper()
	told := 0
	for _, key := range keys {
		v, is, e := c.Get([]byte(key))
		if e != api.OK && e != api.ErrLost && e != api.ErrState {
			t.Fatalf("%s: Get: error %d", name, e)
		}
		if is && x.all[key][string(v)] == 0 {
			t.Fatalf("%s: Get %q: %q, which was never set", name, key, v)
		}
		if is {
			told++
		}
	}
	return told
}

// steps does something by chance, till the device goes down, or long enough.
func (x *tale) steps(t *testing.T, r *rand.Rand, c *Cache, keys []string, most int) {
	t.Helper()
	for n := range most {
		key, ok := keys[r.IntN(len(keys))], true
		switch k := r.IntN(40); {
		case k < 24:
			value := fmt.Sprint(r.Uint64(), " of ", key)
			value += string(make([]byte, r.IntN(30)))
			ttl := 0
			if k == 0 {
				ttl = 1 + r.IntN(5)
			}
			ok = x.set(t, c, key, value, ttl)
		case k < 30:
			ok = x.del(t, c, key)
		case k < 34:
			ok = x.flush(t, c, false)
		case k == 34:
			ok = x.flush(t, c, true)
		case k == 35:
			need(t, "Tick", c.Tick(r.IntN(3)), api.OK)
		default:
			_, _, e := c.Get([]byte(key))
			ok = did(t, "Get", e)
		}
		if !ok {
			if !c.Dead() {
				t.Fatalf("step %d: not dead", n)
			}
			return
		}
	}
}

// P18.5, P18.6, P2, P3, P5: wherever the device goes down, again and again, also while
// a cache is opened, whatever a crash lets be done: the cache is opened, and what was
// flushed is not undone; while both heads are right, each may rot.
func TestCrash(t *testing.T) {
	downs, opens, both := 0, 0, 0
	for seed := range uint64(160) {
		r := rand.New(rand.NewPCG(seed, 18))
		p := []plan.Plan{small, lean, flat, odd}[seed%4]
		d, c := formatted(t, p)
		x := newTale()
		var keys []string
		for n := range 5 + 1<<p.Depth {
			keys = append(keys, fmt.Sprint("k", n))
		}
		for round := range 8 {
			name := fmt.Sprint("seed ", seed, ", round ", round)
			if r.IntN(6) > 0 {
				d.Arm(1 + r.IntN(60))
			}
			x.steps(t, r, c, keys, 60)
			if c.Dead() {
				downs++
			}
			d.Crash(chance(r, d))
			for r.IntN(2) == 0 {
				both += x.oneHead(t, name, d, keys)
				d.Arm(1 + r.IntN(12))
				if _, e := Open(d); !did(t, name, e) {
					opens++
				}
				d.Crash(chance(r, d))
			}
			if l := leaf.Foul(d); len(l) > 0 {
				t.Fatalf("%s: foul: %d", name, l)
			}
			both += x.oneHead(t, name, d, keys)
			c = x.opens(t, name, d, keys)
			whole(t, name, c, p)
		}
	}
	if downs < 500 || opens < 500 || both < 700 {
		t.Errorf("down %d times, %d times while it was opened, both heads were right %d times", downs, opens, both)
	}
}

// play does always the same, till the device goes down, armed with that: Sets of more
// than there is room for, Deletes, flushes, checkpoints.
func play(t *testing.T, p plan.Plan, down int, keys []string) (*flash.Device, *tale) {
	t.Helper()
	d, c := formatted(t, p)
	x := newTale()
	d.Arm(down)
	for n := range 36 {
		key, ok := keys[n*5%len(keys)], true
		switch {
		case n%9 == 8:
			ok = x.flush(t, c, n%2 == 0)
		case n%4 == 3:
			ok = x.del(t, c, key)
		default:
			ok = x.set(t, c, key, fmt.Sprint("value ", n), 0)
		}
		if !ok {
			break
		}
	}
	return d, x
}

// P18.5, P18.6: at each act of a row of calls, and behind it at each act of Open, each
// in some ways.
func TestEachAct(t *testing.T) {
	keys := []string{"a", "b", "c", "d", "e", "f", "g"}
	for _, p := range []plan.Plan{small, flat} {
		d, _ := play(t, p, 0, keys)
		most := d.Acts()
		if most < 40 {
			t.Fatalf("%d acts", most)
		}
		for down := range most {
			d, _ := play(t, p, down+1, keys)
			ways := fatesOf(d.Loose(), d.Size())
			for way := range ways {
				name := fmt.Sprint("down at ", down, ", way ", way)
				d, x := play(t, p, down+1, keys)
				d.Crash(ways[way])
				x.oneHead(t, name, d, keys)
				again := 1 + (down+way)%9
				d.Arm(again)
				if _, e := Open(d); !did(t, name, e) {
					more := fatesOf(d.Loose(), d.Size())
					d.Crash(more[(down/9+way)%len(more)])
				}
				d.Arm(0)
				x.oneHead(t, name, d, keys)
				x.opens(t, name, d, keys)
				d.Crash(nil)
				x.opens(t, name+", again", d, keys)
			}
		}
	}
}

// P18.5, P18.4: wherever the device goes down in a checkpoint, what was flushed ahead
// of it is told.
func TestCheckpointDown(t *testing.T) {
	begin := func() (*flash.Device, *Cache) {
		d, c := formatted(t, small)
		fill(t, c, 10)
		need(t, "Checkpoint", c.Checkpoint(), api.OK)
		set(t, c, "key 3", "another one")
		need(t, "Delete", c.Delete([]byte("key 4")), api.OK)
		need(t, "Tick", c.Tick(5), api.OK)
		need(t, "Flush", c.Flush(), api.OK)
		set(t, c, "key 5", "not flushed")
		return d, c
	}
	d, c := begin()
	before := d.Acts()
	need(t, "Checkpoint", c.Checkpoint(), api.OK)
	acts := d.Acts() - before
	for n := range acts {
		for way := range 8 {
			d, c := begin()
			d.Arm(n + 1)
			need(t, "Checkpoint", c.Checkpoint(), api.ErrDown)
			d.Crash(fatesOf(d.Loose(), d.Size())[way])
			c = opened(t, fmt.Sprint("down at ", n), d)
			for n := range 10 {
				key := fmt.Sprint("key ", n)
				switch n {
				case 3:
					gets(t, "flushed", c, key, "another one")
				case 4:
					missed(t, "flushed", c, key)
				case 5:
				default:
					gets(t, "flushed", c, key, fmt.Sprint("of ", n))
				}
			}
			if n := c.Stats().Time; n != 5 {
				t.Errorf("time %d", n)
			}
		}
	}
	if acts < 6 {
		t.Errorf("%d acts", acts)
	}
}

// P18.2, P18.5: a Flush or a Checkpoint that tells OK is fast: behind a crash in which
// nothing that is loose is done, all is there.
func TestFast(t *testing.T) {
	for _, p := range plans {
		for n := range 40 {
			d, c := formatted(t, p)
			for i := range n % 5 {
				set(t, c, fmt.Sprint("key ", i), fmt.Sprint(i))
			}
			need(t, "Tick", c.Tick(n), api.OK)
			if n%2 == 0 {
				need(t, "Checkpoint", c.Checkpoint(), api.OK)
			} else {
				need(t, "Flush", c.Flush(), api.OK)
			}
			x, _ := plan.Fit(p)
			room := c.Stats().Where < (p.Regions-3)*x.RegionRoom
			c = crashed(t, d)
			for i := 0; i < n%5 && room && c.Stats().Lost == 0; i++ {
				gets(t, "fast", c, fmt.Sprint("key ", i), fmt.Sprint(i))
			}
			if c.Stats().Time != n {
				t.Errorf("time %d, want %d", c.Stats().Time, n)
			}
		}
	}
}

// P18.6: what the head ahead of the newest has is not written over while a cache is
// opened, till the newest head of all stands: the elder one may be needed.
func TestOpenKeepsElder(t *testing.T) {
	for seed := range 30 {
		old, c := formatted(t, lean)
		x := newTale()
		var keys []string
		for n := range 9 {
			keys = append(keys, fmt.Sprint("key ", n+9*seed))
		}
		for n := range 40 {
			x.set(t, c, keys[n*4%9], fmt.Sprint(n), 0)
		}
		x.flush(t, c, true)
		for n := range 5 {
			x.set(t, c, keys[n], fmt.Sprint("changed ", n), 0)
		}
		x.flush(t, c, false)
		for n := 1; ; n++ {
			d := old.Copy()
			d.Arm(n)
			_, e := Open(d)
			d.Arm(0)
			d.Crash(fatesOf(d.Loose(), d.Size())[1])
			x.oneHead(t, fmt.Sprint("down at ", n), d, keys)
			if did(t, "Open", e) {
				break
			}
		}
	}
}

// pagesOf tells the pages of the index of a head.
func pagesOf(t *testing.T, d *flash.Device, h super.Head) []int {
	t.Helper()
	s, e := store.Open(d, h.Plan, h.Gen)
	need(t, "store.Open", e, api.OK)
	x, e := index.Open(s, h.Depth, h.Root)
	need(t, "index.Open", e, api.OK)
	pages, e := x.Pages()
	need(t, "Pages", e, api.OK)
	return pages
}

// P18.1: what the other head has is dead at first only if that is of the generation
// ahead, of the same plan, and its index stands there: else it is free.
func TestOpenElder(t *testing.T) {
	for n, change := range []func(h *super.Head){
		func(h *super.Head) {},
		func(h *super.Head) { h.Gen -= 2 },
		func(h *super.Head) { h.Plan.Seed++ },
		func(h *super.Head) { h.Plan.Memory++ },
		func(h *super.Head) { h.Depth ^= 1 },
		func(h *super.Head) { h.Root.Stamp++ },
	} {
		taken := 0
		for rounds := range 12 {
			d, c := formatted(t, lean)
			for i := range 3 + rounds {
				need(t, "Checkpoint", c.Checkpoint(), api.OK)
				set(t, c, "a", fmt.Sprint(i))
				set(t, c, "b", fmt.Sprint(i))
			}
			need(t, "Flush", c.Flush(), api.OK)
			heads := super.Heads(d)
			newest, elder := pagesOf(t, d, heads[0]), pagesOf(t, d, heads[1])
			change(&heads[1])
			need(t, "Save", super.Save(d, heads[1]), api.OK)
			need(t, "Sync", d.Sync(), api.OK)
			c = crashed(t, d)
			_, pages, _ := c.Parts()
			if slices.ContainsFunc(pages, func(x int) bool { return slices.Contains(elder, x) && !slices.Contains(newest, x) }) {
				taken++
			}
			gets(t, "opened", c, "a", fmt.Sprint(2+rounds))
			gets(t, "opened", c, "b", fmt.Sprint(2+rounds))
			whole(t, "opened", c, lean)
		}
		if (taken > 0) != (n > 0) {
			t.Errorf("%d: the elder one's pages were taken %d times", n, taken)
		}
	}
}

// P18.6: whatever rots, no value is told that was not set for its key; in a cache that
// is there, and in one that is opened.
func TestRot(t *testing.T) {
	told, lost, dead := 0, 0, 0
	for seed := range uint64(400) {
		r := rand.New(rand.NewPCG(seed, 6))
		p := []plan.Plan{small, lean, odd, flat}[seed%4]
		d, c := formatted(t, p)
		x := newTale()
		var keys []string
		for n := range 5 + 1<<p.Depth {
			keys = append(keys, fmt.Sprint("k", n))
		}
		for round := range 4 {
			name := fmt.Sprint("seed ", seed, ", round ", round)
			for !c.Dead() && r.IntN(50) > 0 {
				for range 1 + r.IntN(3) {
					d.Rot(r.IntN(p.Sectors), r.IntN(p.Size), byte(1+r.IntN(255)))
				}
				key := keys[r.IntN(len(keys))]
				x.does(key, deed{value: fmt.Sprint(r.Uint64())})
				e := c.Set([]byte(key), []byte(x.deeds[key][len(x.deeds[key])-1].value), 0)
				if r.IntN(4) == 0 && e == api.OK {
					e = c.Flush()
				}
				if e != api.OK && e != api.ErrLost {
					t.Fatalf("%s: error %d", name, e)
				}
				if c.Dead() != (e != api.OK) {
					t.Fatalf("%s: error %d, dead %v", name, e, c.Dead())
				}
				told += x.allSet(t, name, c, keys)
			}
			if c.Dead() {
				dead++
			}
			d.Crash(chance(r, d))
			if l := leaf.Foul(d); len(l) > 0 {
				t.Fatalf("%s: foul: %d", name, l)
			}
			o, e := Open(d)
			if e == api.ErrLost {
				lost++
				break
			}
			need(t, name, e, api.OK)
			c = o
			told += x.allSet(t, name, c, keys)
		}
	}
	if told < 5000 || lost < 100 || dead < 100 {
		t.Errorf("%d told, %d times lost, %d dead", told, lost, dead)
	}
}

// P18.2, P18.3: a page of the index that rots, and is asked for: ErrLost, and the cache
// is dead. What is in memory is not asked for.
func TestRotOfPage(t *testing.T) {
	for call, do := range map[string]func(c *Cache, key string) api.Errno{
		"Get":    func(c *Cache, key string) api.Errno { _, _, e := c.Get([]byte(key)); return e },
		"Set":    func(c *Cache, key string) api.Errno { return c.Set([]byte(key), []byte("new"), 0) },
		"Delete": func(c *Cache, key string) api.Errno { return c.Delete([]byte(key)) },
		"Slots":  func(c *Cache, key string) api.Errno { _, e := c.Slots(); return e },
		"Parts":  func(c *Cache, key string) api.Errno { _, _, e := c.Parts(); return e },
	} {
		lost := 0
		for n := range 40 {
			d, c := formatted(t, odd)
			keys := fill(t, c, 80)
			need(t, "Checkpoint", c.Checkpoint(), api.OK)
			_, pages, e := c.Parts()
			need(t, "Parts", e, api.OK)
			for i := range n {
				c.Get([]byte(keys[79-i*7%30]))
			}
			x, _ := plan.Fit(odd)
			for _, n := range pages {
				d.Rot(x.Page+n, 30, 255)
			}
			switch e := do(c, keys[79-n*11%30]); {
			case e == api.ErrLost && c.Dead():
				lost++
				refuses(t, call, c, api.ErrState)
			case e != api.OK || c.Dead():
				t.Fatalf("%s: error %d, dead %v", call, e, c.Dead())
			}
		}
		if lost < 2 {
			t.Errorf("%s: %d times lost", call, lost)
		}
	}
}

// P18.2: a page of references, put there by hand, that tells of a page that there is
// not: ErrLost, and the cache is dead.
func TestNoPage(t *testing.T) {
	lost := 0
	for n := range 40 {
		d, c := formatted(t, odd)
		keys := fill(t, c, 80)
		need(t, "Checkpoint", c.Checkpoint(), api.OK)
		_, pages, _ := c.Parts()
		for i := range n {
			c.Get([]byte(keys[79-i*7%30]))
		}
		for _, at := range pages {
			x, _ := plan.Fit(odd)
			l, e := leaf.Get(d, x.Page+at, 2, at)
			need(t, "leaf.Get", e, api.OK)
			for i := 0; len(l.Load)%12 == 0 && i < len(l.Load); i += 12 {
				l.Load[i+2] = 77
			}
			need(t, "leaf.Put", leaf.Put(d, x.Page+at, l), api.OK)
		}
		switch _, _, e := c.Get([]byte(keys[79-n*11%30])); {
		case e == api.ErrLost && c.Dead():
			lost++
			refuses(t, "no page", c, api.ErrState)
		case e != api.OK || c.Dead():
			t.Fatalf("error %d, dead %v", e, c.Dead())
		}
	}
	if lost < 2 {
		t.Errorf("%d times lost", lost)
	}
}

// P18.2, P18.6: a record that rots is a miss, and the cache goes on.
func TestRotOfRecord(t *testing.T) {
	d, c := formatted(t, small)
	set(t, c, "a", "one")
	need(t, "Flush", c.Flush(), api.OK)
	set(t, c, "b", "two")
	need(t, "Flush", c.Flush(), api.OK)
	x, _ := plan.Fit(small)
	d.Rot(x.Region+4, 40, 1)
	missed(t, "rotten", c, "a")
	gets(t, "beside it", c, "b", "two")
	c = crashed(t, d)
	missed(t, "rotten", c, "a")
	gets(t, "beside it", c, "b", "two")
	set(t, c, "a", "again")
	gets(t, "set again", c, "a", "again")
}

// R4: what is handed in is not changed and not kept; what is handed out is new.
func TestHandedInAndOut(t *testing.T) {
	d, c := formatted(t, small)
	key, value := []byte("keykey"), []byte("valuevalue")
	need(t, "Set", c.Set(key[:3], value[:5], 0), api.OK)
	if string(key) != "keykey" || string(value) != "valuevalue" {
		t.Errorf("changed: %q, %q", key, value)
	}
	clear(key)
	clear(value)
	for range 2 {
		v, _, _ := c.Get([]byte("key"))
		gets(t, "cleared", c, "key", "value")
		clear(v)
	}
	set(t, c, "other", "thing")
	need(t, "Checkpoint", c.Checkpoint(), api.OK)
	for range 2 {
		clear(c.Counts())
		slots, _ := c.Slots()
		clear(slots[0].Bucket.Entries)
		parts, pages, _ := c.Parts()
		clear(pages)
		clear(parts.Taken)
		clear(parts.Dead)
	}
	if n := c.Counts(); !slices.Equal(n, []int{4, 0, 2, 0, 0, 0, 2}) {
		t.Errorf("counts %d", n)
	}
	whole(t, "cleared", c, small)
	gets(t, "opened", crashed(t, d), "key", "value")
}

// R5: what is done alike, is alike, to the last bit of the device.
func TestAlike(t *testing.T) {
	run := func() (*flash.Device, Stats) {
		d, c := formatted(t, small)
		for range 2 {
			r := rand.New(rand.NewPCG(4, 4))
			newTale().steps(t, r, c, []string{"a", "b", "c", "d", "e", "f", "g", "h"}, 200)
			d.Crash(chance(r, d))
			c = opened(t, "alike", d)
		}
		return d, c.Stats()
	}
	d, s := run()
	other, z := run()
	if !same(d, other) || s != z {
		t.Errorf("%+v, %+v", s, z)
	}
}
