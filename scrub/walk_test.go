package scrub

import (
	"fmt"
	"math/rand/v2"
	"slices"
	"testing"

	"sgraffito/api"
	"sgraffito/cache"
	"sgraffito/dump"
	"sgraffito/flash"
	"sgraffito/plan"
	"sgraffito/stand"
)

// walker goes through a cache by chance.
type walker struct {
	p     plan.Plan
	d     *flash.Device
	c     *cache.Cache
	r     *rand.Rand
	clean bool // without crashes and rot
}

// key tells one by chance.
func (w *walker) key() []byte { return fmt.Append(nil, "k", w.r.IntN(6<<w.p.Depth)) }

// set sets a key, if the device lets it be done.
func (w *walker) set() api.Errno {
	key := w.key()
	room := (w.p.Size-19)*w.p.RegionSectors - 13 - len(key)
	value := make([]byte, min(w.r.IntN(90), room))
	for n := range value {
		value[n] = byte(w.r.IntN(3)) // noughts, too
	}
	return w.c.Set(key, value, w.r.IntN(2)*w.r.IntN(9))
}

// crash lets the device crash, and opens what is there then.
func (w *walker) crash(t *testing.T, name string) {
	t.Helper()
	fates := make([]int, w.d.Loose())
	for n := range fates {
		fates[n] = w.r.IntN(3) * w.d.Size() / 2
		if w.r.IntN(4) == 0 {
			fates[n] = w.r.IntN(w.d.Size())
		}
	}
	w.d.Crash(fates)
	_, e := scrubs(t, name, w.d)
	need(t, name, e, api.OK)
	w.open(t, name)
}

// open opens what is there.
func (w *walker) open(t *testing.T, name string) {
	t.Helper()
	c, e := cache.Open(w.d)
	need(t, name+": Open", e, api.OK)
	w.c = c
}

// step does something by chance.
func (w *walker) step(t *testing.T, name string) {
	t.Helper()
	e := api.OK
	switch k := w.r.IntN(40); {
	case k < 26:
		e = w.set()
	case k < 29:
		e = w.c.Delete(w.key())
	case k < 33:
		e = w.c.Flush()
		if r, f := Scrub(w.d); w.clean && (e != api.OK || f != api.OK || len(r.Bad) > 0 || len(r.Broken) > 0) {
			t.Fatalf("%s: errors %d, %d: %v", name, e, f, r)
		}
	case k < 34:
		e = w.c.Checkpoint()
	case k < 36:
		e = w.c.Tick(w.r.IntN(4))
	case k < 37 && !w.clean:
		w.crash(t, name+", crash")
	case k < 39 && !w.clean:
		w.d.Arm(1 + w.r.IntN(40))
	}
	if e == api.ErrDown {
		w.crash(t, name+", down")
		return
	}
	need(t, name, e, api.OK)
}

// P26.1, P26.3: whatever is done, also behind crashes, a scrub tells what stands on the
// device; without crashes nothing is bad and no region is broken behind a flush.
func TestWalk(t *testing.T) {
	for _, p := range plans {
		for seed := range uint64(8) {
			d, c := formatted(t, p)
			w := &walker{p, d, c, rand.New(rand.NewPCG(seed, uint64(p.Size))), seed%2 == 0}
			for step := range 200 {
				name := fmt.Sprint("plan ", p.Sectors, ", seed ", seed, ", step ", step)
				w.step(t, name)
				if step%3 == 0 && p != wide || step%20 == 0 {
					scrubs(t, name, d)
				}
			}
		}
	}
}

// P26.1 to P26.3, P4: behind rot and crashes, too, a scrub tells what stands on the
// device, or ErrLost; what can be healed is healed, and a cache goes on with it.
func TestRot(t *testing.T) {
	lost, bad, broken, stale, kept := 0, 0, 0, 0, 0
	for seed := range uint64(150) {
		r := rand.New(rand.NewPCG(seed, 26))
		p := plans[seed%5]
		d, c := formatted(t, p)
		w := &walker{p, d, c, r, seed%3 > 0}
		for step := range 60 {
			w.step(t, fmt.Sprint("seed ", seed, ", step ", step))
		}
		d.Arm(0)
		w.clean = false
		x, _ := plan.Fit(p)
		for n := range 9 {
			name := fmt.Sprint("seed ", seed, ", rot ", n)
			at := r.IntN(p.Sectors)
			if n%3 > 0 {
				at = x.Region + r.IntN(x.Page-x.Region)
			}
			d.Rot(at, r.IntN(p.Size), 1<<r.IntN(8))
			y, e := scrubs(t, name, d)
			bad, broken, stale = bad+len(y.Bad), broken+len(y.Broken), stale+len(y.Stale)
			if e != api.OK {
				lost++
				continue
			}
			if n%4 == 3 {
				l := healed(t, name, d)
				w.open(t, name)
				gets(t, name, d.Copy(), l)
				kept += len(l)
				for range 20 {
					w.step(t, name+", on")
				}
				d.Arm(0)
			}
		}
	}
	if lost < 50 || lost > 1000 || bad < 500 || broken < 200 || stale < 500 || kept < 500 {
		t.Errorf("%d were lost; bad %d, broken %d, stale %d; kept %d", lost, bad, broken, stale, kept)
	}
}

// narrow has regions of 519 bytes in 3 sectors of 173, a log of 28 changes, and buckets that
// have room for all that goes into them.
var narrow = plan.Plan{Sectors: 420, Size: 192, Regions: 4, RegionSectors: 3, LogSectors: 4, Depth: 6, Memory: 20, Seed: 1}

// P26.3: of caches whose regions are full all that could be read is read behind Heal, in
// whatever order it was set and flushed.
func TestFullByChance(t *testing.T) {
	tight, parted := 0, 0
	for seed := range uint64(200) {
		r := rand.New(rand.NewPCG(seed, 27))
		d, c := formatted(t, narrow)
		least, most := 20+r.IntN(150), 1+r.IntN(150)
		for n := 0; n < least || c.Stats().Where%519 < 470; n++ {
			set(t, c, fmt.Sprint(r.IntN(1000), "-", n), string(make([]byte, r.IntN(most))))
			if r.IntN(50) == 0 {
				flush(t, c)
			}
		}
		flush(t, c)
		s, e := stand.On(d)
		need(t, "On", e, api.OK)
		l := taken(t, "flushed", d)
		if !haveRoom(s.Report, [][]dump.Item{l}) {
			tight++
			if !haveRoom(s.Report, [][]dump.Item{slices.Concat(asTheyStand(s, l)...)}) {
				parted++
			}
		}
		name := fmt.Sprint("seed ", seed)
		if got := healed(t, name, d); len(got) != len(l) || !haveBucketsRoom(narrow, l) {
			t.Fatalf("%s: %d of %d", name, len(got), len(l))
		}
		gets(t, name, d, l)
	}
	if tight < 20 || parted < 5 {
		t.Errorf("%d did not go in by their keys, %d not without checkpoints", tight, parted)
	}
}
