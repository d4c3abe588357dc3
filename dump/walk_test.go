package dump

import (
	"bytes"
	"fmt"
	"math/rand/v2"
	"slices"
	"testing"

	"sgraffito/api"
	"sgraffito/cache"
	"sgraffito/flash"
	"sgraffito/plan"
)

// walker goes through a cache by chance.
type walker struct {
	p    plan.Plan
	d    *flash.Device
	c    *cache.Cache
	r    *rand.Rand
	kept int // how many entries were lost at the last checkpoint
	hits int
}

// key tells one by chance.
func (w *walker) key() []byte { return fmt.Append(nil, "k", w.r.IntN(6<<w.p.Depth)) }

// set sets a key, if the device lets it be done.
func (w *walker) set() api.Errno {
	key := w.key()
	room := (w.p.Size-19)*w.p.RegionSectors - 13 - len(key)
	value := make([]byte, min(w.r.IntN(90), room))
	for n := range value {
		value[n] = byte(w.r.IntN(3)) // noughts, too
	}
	return w.c.Set(key, value, w.r.IntN(2)*w.r.IntN(9))
}

// flush flushes, and holds the dump to what Get tells. (A page that goes out of memory is
// written, so the device may go down at a Get.)
func (w *walker) flush(t *testing.T, name string) api.Errno {
	t.Helper()
	if e := w.c.Flush(); e != api.OK {
		return e
	}
	l, e := takes(t, name, w.d)
	need(t, name, e, api.OK)
	var got []string
	for n := range 6 << w.p.Depth {
		key := fmt.Append(nil, "k", n)
		v, is, e := w.c.Get(key)
		if e == api.ErrDown {
			return e
		}
		need(t, name, e, api.OK)
		at, stands := slices.BinarySearchFunc(l, Item{Key: key}, byKey)
		if is && (!stands || !bytes.Equal(l[at].Value, v)) {
			t.Fatalf("%s: %s is %q, items %q", name, key, v, textsOf(l))
		}
		if is {
			got = append(got, string(key))
		}
	}
	if len(got) != len(l) && w.c.Stats().Lost == w.kept {
		t.Fatalf("%s: got %q, items %q", name, got, textsOf(l))
	}
	w.hits += len(got)
	return api.OK
}

// crash lets the device crash, and opens what is there then: items that were there ahead
// of it are just what a Get tells.
func (w *walker) crash(t *testing.T, name string) {
	t.Helper()
	fates := make([]int, w.d.Loose())
	for n := range fates {
		fates[n] = w.r.IntN(3) * w.d.Size() / 2
		if w.r.IntN(4) == 0 {
			fates[n] = w.r.IntN(w.d.Size())
		}
	}
	w.d.Crash(fates)
	l, e := takes(t, name, w.d)
	need(t, name, e, api.OK)
	c, e := cache.Open(w.d)
	need(t, name+": Open", e, api.OK)
	w.c, w.kept = c, c.Stats().Lost
	for _, x := range l {
		if v, is, e := c.Get(x.Key); e != api.OK || is && !bytes.Equal(v, x.Value) || !is && w.kept == 0 {
			t.Fatalf("%s: %s is %q, %v; items %q", name, x.Key, v, is, textsOf(l))
		}
	}
	o, e := takes(t, name+", opened", w.d)
	need(t, name, e, api.OK)
	if w.kept == 0 && !slices.Equal(textsOf(o), textsOf(l)) {
		t.Fatalf("%s: %q, were %q", name, textsOf(o), textsOf(l))
	}
}

// step does something by chance.
func (w *walker) step(t *testing.T, name string, crashes bool) {
	t.Helper()
	e := api.OK
	switch k := w.r.IntN(40); {
	case k < 24:
		e = w.set()
	case k < 29:
		e = w.c.Delete(w.key())
	case k < 33:
		e = w.flush(t, name+", flush")
	case k < 34:
		e = w.c.Checkpoint()
		w.kept = w.c.Stats().Lost
	case k < 36:
		e = w.c.Tick(w.r.IntN(4))
	case k < 37 && crashes:
		w.crash(t, name+", crash")
	case k < 39 && crashes:
		w.d.Arm(1 + w.r.IntN(40))
	}
	if e == api.ErrDown {
		w.crash(t, name+", down")
		return
	}
	need(t, name, e, api.OK)
}

// P25.1, P25.3: whatever is done, also behind crashes, a dump is what stands on the
// device; behind a flush it is just what Get tells, if no entry was lost.
func TestWalk(t *testing.T) {
	hits := 0
	for _, p := range plans {
		for seed := range uint64(8) {
			d, c := formatted(t, p)
			w := &walker{p: p, d: d, c: c, r: rand.New(rand.NewPCG(seed, uint64(p.Size)))}
			for step := range 200 {
				name := fmt.Sprint("plan ", p.Sectors, ", seed ", seed, ", step ", step)
				w.step(t, name, seed%2 == 1)
				if step%3 == 0 && p != wide || step%20 == 0 {
					takes(t, name, d)
				}
			}
			hits += w.hits
		}
	}
	if hits < 10000 {
		t.Errorf("%d values were got", hits)
	}
}

// P25.1, P4: behind rot, too, a dump is what stands on the device, or ErrLost.
func TestRot(t *testing.T) {
	lost, told := 0, 0
	for seed := range uint64(120) {
		r := rand.New(rand.NewPCG(seed, 25))
		p := plans[seed%4]
		d, c := formatted(t, p)
		w := &walker{p: p, d: d, c: c, r: r}
		for step := range 60 {
			w.step(t, fmt.Sprint("seed ", seed, ", step ", step), false)
		}
		for n := range 12 {
			d.Rot(r.IntN(p.Sectors), r.IntN(p.Size), 1<<r.IntN(8))
			l, e := takes(t, fmt.Sprint("seed ", seed, ", rot ", n), d)
			told += len(l)
			if e == api.ErrLost {
				lost++
			}
		}
	}
	if lost < 100 || lost > 1300 || told < 1000 {
		t.Errorf("%d of 1440 were lost, %d items told", lost, told)
	}
}
