package audit

import (
	"fmt"
	"math/rand/v2"
	"slices"
	"testing"

	"sgraffito/api"
	"sgraffito/cache"
	"sgraffito/flash"
	"sgraffito/plan"
	"sgraffito/record"
)

// walker goes through a cache by chance, with all the records that were set beside it,
// the eldest first.
type walker struct {
	p    plan.Plan
	d    *flash.Device
	c    *cache.Cache
	r    *rand.Rand
	time int
	sets []string
	over int // how many flushes there were behind which elder records were written over
}

// text tells a record as textOf does.
func text(x record.Record) string { return fmt.Sprintf("%s=%s/%d", x.Key, x.Value, x.End) }

// set sets a key, if the device lets it be done.
func (w *walker) set() api.Errno {
	x := record.Record{Key: []byte(fmt.Sprint("k", w.r.IntN(6<<w.p.Depth))), Value: make([]byte, w.r.IntN(90))}
	for n := range x.Value {
		x.Value[n] = byte(w.r.IntN(3)) // noughts, too
	}
	x.Value = x.Value[:min(len(x.Value), (w.p.Size-19)*w.p.RegionSectors-13-len(x.Key))]
	ttl := w.r.IntN(2) * w.r.IntN(9)
	if ttl > 0 {
		x.End = w.time + ttl
	}
	e := w.c.Set(x.Key, x.Value, ttl)
	w.sets = append(w.sets, text(x))
	return e
}

// flush flushes, and holds the report to P19.3.
func (w *walker) flush(t *testing.T, name string) api.Errno {
	t.Helper()
	if e := w.c.Flush(); e != api.OK {
		return e
	}
	r, _ := looks(t, name, w.d, w.p)
	l := all(r)
	if len(l) > len(w.sets) || !slices.Equal(l, w.sets[len(w.sets)-len(l):]) {
		t.Fatalf("%s: records %q, set were %q", name, l, w.sets)
	}
	s := w.c.Stats()
	if w.over += s.Oldest - 1; s.Oldest == 1 && len(l) != len(w.sets) {
		t.Fatalf("%s: records %q, set were %q", name, l, w.sets)
	}
	if len(r.Regions) > 0 && r.Regions[0].Number != s.Oldest || r.Time != s.Time {
		t.Fatalf("%s: regions %d, time %d; %+v", name, regionsIn(r), r.Time, s)
	}
	return api.OK
}

// checkpoint makes one, and holds the report to P19.3.
func (w *walker) checkpoint(t *testing.T, name string) api.Errno {
	t.Helper()
	e := w.c.Checkpoint()
	if e == api.OK {
		w.alike(t, name)
	}
	return e
}

// alike holds the report behind a checkpoint to the cache.
func (w *walker) alike(t *testing.T, name string) {
	t.Helper()
	slots, e := w.c.Slots()
	need(t, name, e, api.OK)
	_, pages, e := w.c.Parts()
	need(t, name, e, api.OK)
	r, _ := looks(t, name, w.d, w.p)
	s := w.c.Stats()
	if fmt.Sprint(r.Slots) != fmt.Sprint(slots) || !slices.Equal(r.Pages, pages) || len(r.Changes) != 0 {
		t.Fatalf("%s: %+v; slots %v, pages %d", name, r, slots, pages)
	}
	if r.Head.Gen != s.Gen-1 || r.Head.Depth != s.Depth || r.Time != s.Time {
		t.Fatalf("%s: head %+v; %+v", name, r.Head, s)
	}
}

// crash lets the device crash, looks, and opens what is there then: what is told ahead
// of opening it is what the cache makes of it.
func (w *walker) crash(t *testing.T, name string) {
	t.Helper()
	fates := make([]int, w.d.Loose())
	for n := range fates {
		fates[n] = w.r.IntN(3) * w.d.Size() / 2
		if w.r.IntN(4) == 0 {
			fates[n] = w.r.IntN(w.d.Size())
		}
	}
	w.d.Crash(fates)
	r, is := looks(t, name, w.d, w.p)
	if !is {
		t.Fatalf("%s: nothing is there", name)
	}
	if w.r.IntN(4) == 0 { // down again, while it is opened
		w.d.Arm(1 + w.r.IntN(6))
	}
	c, e := cache.Open(w.d)
	if e == api.ErrDown {
		w.crash(t, name+" again")
		return
	}
	need(t, name+": Open", e, api.OK)
	w.d.Arm(0)
	w.c, w.time, w.sets = c, r.Time, all(r)
	if s := c.Stats(); s.Time != r.Time || len(r.Regions) > 0 && s.Oldest != r.Regions[0].Number {
		t.Fatalf("%s: time %d, regions %d; %+v", name, r.Time, regionsIn(r), s)
	}
	w.alike(t, name+", opened")
}

// step does something by chance.
func (w *walker) step(t *testing.T, name string, crashes bool) {
	t.Helper()
	e := api.OK
	switch k := w.r.IntN(40); {
	case k < 24:
		e = w.set()
	case k < 29:
		e = w.c.Delete([]byte(fmt.Sprint("k", w.r.IntN(6<<w.p.Depth))))
	case k < 33:
		e = w.flush(t, name+", flush")
	case k < 34:
		e = w.checkpoint(t, name+", checkpoint")
	case k < 36:
		n := w.r.IntN(4)
		e = w.c.Tick(n)
		w.time += n
	case k < 37 && crashes:
		w.crash(t, name+", crash")
	case k < 39 && crashes:
		w.d.Arm(1 + w.r.IntN(40))
	}
	if e == api.ErrDown {
		w.crash(t, name+", down")
		return
	}
	need(t, name, e, api.OK)
}

// P19.1 to P19.3, P3: whatever is done, also behind crashes, a report is what stands on
// the device, byte by byte; behind a checkpoint it has the cache's slots and pages, and
// no changes; behind a flush its records are the last ones that were set.
func TestWalk(t *testing.T) {
	over := 0
	for _, p := range plans {
		for seed := range uint64(8) {
			d, c := formatted(t, p)
			w := &walker{p: p, d: d, c: c, r: rand.New(rand.NewPCG(seed, uint64(p.Size)))}
			for step := range 200 {
				name := fmt.Sprint("plan ", p.Sectors, ", seed ", seed, ", step ", step)
				w.step(t, name, seed%2 == 1)
				if step%3 == 0 && p != wide || step%20 == 0 {
					looks(t, name, d, p)
				}
			}
			over += w.over
		}
	}
	if over < 1000 {
		t.Errorf("%d regions were written over", over)
	}
}

// P19.1, P4: behind rot, too, a report is what stands on the device, or ErrLost, as a
// cache's Open tells.
func TestRot(t *testing.T) {
	lost := 0
	for seed := range uint64(120) {
		r := rand.New(rand.NewPCG(seed, 19))
		p := plans[seed%4]
		d, c := formatted(t, p)
		w := &walker{p: p, d: d, c: c, r: r}
		for step := range 60 {
			w.step(t, fmt.Sprint("seed ", seed, ", step ", step), false)
		}
		for n := range 12 {
			name := fmt.Sprint("seed ", seed, ", rot ", n)
			d.Rot(r.IntN(p.Sectors), r.IntN(p.Size), 1<<r.IntN(8))
			_, is := looks(t, name, d, p)
			_, e := cache.Open(d.Copy())
			if is && e != api.OK || !is && e != api.ErrLost {
				t.Fatalf("%s: is there a report: %v; a cache's Open: error %d", name, is, e)
			}
			if !is {
				lost++
			}
		}
	}
	if lost < 100 || lost > 1300 {
		t.Errorf("%d of 1440 were lost", lost)
	}
}
