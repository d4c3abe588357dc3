package replay

import (
	"fmt"
	"math/rand"
	"slices"
	"testing"

	"sgraffito/api"
	"sgraffito/cache"
	"sgraffito/flash"
	"sgraffito/plan"
	"sgraffito/script"
)

// byHand is a device and a cache on it, with which is done what the chapter words.
type byHand struct {
	d *flash.Device
	c *cache.Cache
}

// do does an act.
func (h *byHand) do(x script.Act) Reply {
	switch x.Kind {
	case get:
		value, is, e := h.c.Get(x.Key)
		return Reply{e, is, value, nil}
	case set:
		return Reply{Err: h.c.Set(x.Key, x.Value, x.Num)}
	case remove:
		return Reply{Err: h.c.Delete(x.Key)}
	case flush:
		return Reply{Err: h.c.Flush()}
	case checkpoint:
		return Reply{Err: h.c.Checkpoint()}
	case tick:
		return Reply{Err: h.c.Tick(x.Num)}
	case arm:
		h.d.Arm(x.Num)
		return Reply{}
	case crash:
		h.d.Crash(x.Nums)
		c, e := cache.Open(h.d)
		h.c = nil
		if e == api.OK {
			h.c = c
		}
		return Reply{Err: e}
	case rot:
		return Reply{Err: h.d.Rot(x.Nums[0], x.Nums[1], byte(x.Nums[2]&255))}
	}
	s := h.c.Stats()
	return Reply{Nums: []int{s.Time, s.Gen, s.Depth, s.Where, s.Oldest, s.Left, s.Held, s.Lost, s.Splits}}
}

// walk tells acts as they come, each value but once.
type walk struct {
	r     *rand.Rand
	p     plan.Plan
	keys  int
	rots  bool
	made  int
	wrong bool
}

// next tells the act that comes.
func (w *walk) next() script.Act {
	key := fmt.Sprint("k", w.r.Intn(w.keys))
	switch n := w.r.Intn(100); {
	case n < 40:
		w.made++
		ttl := max(0, w.r.Intn(12)-7)
		return endOf(key, fmt.Sprintf("%s.%d", key, w.made), ttl)
	case n < 55:
		return getOf(key)
	case n < 65:
		return removeOf(key)
	case n < 73:
		return script.Act{Kind: flush}
	case n < 76:
		return script.Act{Kind: checkpoint}
	case n < 80:
		return numOf(tick, w.r.Intn(3)-w.r.Intn(2))
	case n < 85:
		return numOf(arm, w.r.Intn(25))
	case n < 92:
		return numsOf(crash, w.fates()...)
	case n < 94 && w.rots:
		return numsOf(rot, w.r.Intn(w.p.Sectors+1), w.r.Intn(w.p.Size+1), w.r.Intn(600)-300)
	case n < 96 && w.wrong:
		return wrongActs[w.r.Intn(len(wrongActs))]
	}
	return script.Act{Kind: stats}
}

// fates tells some of a crash.
func (w *walk) fates() []int {
	var list []int
	for range w.r.Intn(30) {
		switch w.r.Intn(3) {
		case 0:
			list = append(list, w.p.Size)
		case 1:
			list = append(list, w.r.Intn(w.p.Size+1))
		default:
			list = append(list, 0)
		}
	}
	return list
}

// P21.1: act for act a machine does, and tells, what is done by hand, on all plans, with crashes, with
// rot, and with acts that may not be.
func TestByHand(t *testing.T) {
	lost := 0
	for seed := range int64(120) {
		p := plans[seed%int64(len(plans))]
		w := &walk{r: rand.New(rand.NewSource(seed)), p: p, keys: 3 + int(seed%40), rots: seed%3 == 0, wrong: true}
		m := machine(t, p)
		d := flash.New(p.Sectors, p.Size)
		c, e := cache.Format(d, p)
		need(t, "Format", e, api.OK)
		h := &byHand{d, c}
		for step := range 250 {
			x := w.next()
			want := Reply{Err: api.ErrOp}
			if script.Right(x) {
				want = h.do(x)
			}
			if got := m.Do(x); !alike(got, want) {
				t.Fatalf("seed %d, step %d, %s: %+v, want %+v", seed, step, named(x), got, want)
			}
			if (m.Cache() == nil) != (h.c == nil) || m.Cache().Stats() != h.c.Stats() || m.Cache().Dead() != h.c.Dead() || !slices.Equal(m.Cache().Counts(), h.c.Counts()) {
				t.Fatalf("seed %d, step %d, %s: %+v, want %+v", seed, step, named(x), m.Cache().Stats(), h.c.Stats())
			}
			if h.c == nil {
				lost++
			}
		}
		if !same(m.Device(), h.d) {
			t.Fatalf("seed %d: other devices", seed)
		}
	}
	if lost == 0 {
		t.Error("there was a cache always")
	}
}

// acts tells so many that come.
func (w *walk) acts(count int) []script.Act {
	var l []script.Act
	for range count {
		l = append(l, w.next())
	}
	return l
}

// P21.1, P21.2: a Run tells what a machine tells that does the acts one by one, and tells it again,
// whatever else is done meanwhile, also of acts that were bytes.
func TestAgain(t *testing.T) {
	other := machine(t, small)
	for seed := range int64(60) {
		p := plans[seed%int64(len(plans))]
		w := &walk{r: rand.New(rand.NewSource(seed)), p: p, keys: 20, rots: seed%2 == 0}
		l := w.acts(200)
		m := machine(t, p)
		var want []Reply
		for i, x := range l {
			want = append(want, m.Do(x))
			if i%7 == 0 {
				other.Do(x)
			}
		}
		b, e := script.Pack(l)
		need(t, "Pack", e, api.OK)
		again, e := script.Unpack(b)
		need(t, "Unpack", e, api.OK)
		for _, list := range [][]script.Act{l, again, l} {
			if got, e := Run(p, list); e != api.OK || !slices.EqualFunc(got, want, alike) {
				t.Fatalf("seed %d: error %d, other replies", seed, e)
			}
		}
	}
}

// did is what was done to a key: the value that it was given, or that it was taken away.
type did struct {
	value string
	gone  bool
}

// memory is what a Get of a key may tell: any value that was set from that on which was done last ahead
// of the last flush.
type memory struct {
	done    map[string][]did
	flushed map[string]int
	sure    map[string]bool // it was told that what was done last was done, and there was no crash since
}

// add does what an act and its reply tell.
func (y *memory) add(x script.Act, r Reply) {
	key := string(x.Key)
	switch {
	case x.Kind == crash:
		clear(y.sure)
	case (x.Kind == set || x.Kind == remove) && (r.Err == api.OK || r.Err == api.ErrDown):
		y.done[key] = append(y.done[key], did{string(x.Value), x.Kind == remove})
		y.sure[key] = r.Err == api.OK
	case (x.Kind == flush || x.Kind == checkpoint) && r.Err == api.OK:
		// What was under way as the device went down was done, or will never be.
		for key, list := range y.done {
			if y.sure[key] {
				y.flushed[key] = len(list) - 1
			}
		}
	}
}

// may tells whether a Get of a key may tell that value.
func (y *memory) may(key, value string) bool {
	list := y.done[key]
	if y.sure[key] {
		return !list[len(list)-1].gone && list[len(list)-1].value == value
	}
	return slices.Contains(list[y.flushed[key]:], did{value, false})
}

// P2, P21.1: by replies alone: a Get tells a miss, or a value set not ahead of the last Set or Delete of
// the key that was done ahead of the last flush; without a crash since just the last one.
func TestFlushedStays(t *testing.T) {
	told, behind := 0, 0
	for seed := range int64(400) {
		p := plans[seed%int64(len(plans))]
		w := &walk{r: rand.New(rand.NewSource(seed)), p: p, keys: 2 + int(seed%20)}
		l := w.acts(200)
		for n := range w.keys {
			l = append(l, getOf(fmt.Sprint("k", n)))
		}
		r, e := Run(p, l)
		need(t, "Run", e, api.OK)
		y := memory{map[string][]did{}, map[string]int{}, map[string]bool{}}
		for i, x := range l {
			y.add(x, r[i])
			if x.Kind == crash && r[i].Err != api.OK {
				t.Fatalf("seed %d, act %d: a crash tells %d", seed, i, r[i].Err)
			}
			if !r[i].Found {
				continue
			}
			told++
			if !y.sure[string(x.Key)] {
				behind++
			}
			if !y.may(string(x.Key), string(r[i].Value)) {
				t.Fatalf("seed %d, act %d: %q has %q; done was %v, flushed %d", seed, i, x.Key, r[i].Value, y.done[string(x.Key)], y.flushed[string(x.Key)])
			}
		}
	}
	if told < 1000 || behind < 100 {
		t.Errorf("%d values, %d of them behind a crash", told, behind)
	}
}

// P2, P21.1: wherever the device goes down in a script, and whatever is done of what is loose, the cache is
// opened, and what was flushed is there.
func TestAnywhere(t *testing.T) {
	var first, second []script.Act
	for n := range 12 {
		first = append(first, setOf(fmt.Sprint("k", n), "old"))
	}
	first = append(first, removeOf("k3"), script.Act{Kind: flush})
	for n := range 12 {
		second = append(second, setOf(fmt.Sprint("k", n), "new"), removeOf("k5"))
	}
	second = append(second, script.Act{Kind: checkpoint})
	for _, p := range []plan.Plan{small, lean, odd} {
		downs := 0
		for n := 1; ; n++ {
			l := slices.Concat(first, []script.Act{numOf(arm, n)}, second)
			went := false
			for _, fates := range [][]int{nil, {p.Size, p.Size, p.Size, p.Size, p.Size, p.Size}, {n * 7, n * 5, n * 3}} {
				m := machine(t, p)
				for _, x := range l {
					went = m.Do(x).Err == api.ErrDown || went
				}
				does(t, m, numsOf(crash, fates...), Reply{})
				for k := range 12 {
					key := fmt.Sprint("k", k)
					got := m.Do(getOf(key))
					value := string(got.Value)
					if got.Err != api.OK || got.Found && value != "new" && (value != "old" || k == 3) {
						t.Fatalf("down at %d, fates %v, %s: %+v", n, fates, key, got)
					}
				}
			}
			if !went {
				break
			}
			downs++
		}
		if downs < 20 {
			t.Errorf("the device went down at %d places", downs)
		}
	}
}

// P4, P21.1: behind rot no value is told that was not set for the key.
func TestBehindRot(t *testing.T) {
	told := 0
	for seed := range int64(300) {
		p := plans[seed%int64(len(plans))]
		w := &walk{r: rand.New(rand.NewSource(seed)), p: p, keys: 2 + int(seed%20), rots: true}
		l := w.acts(200)
		r, e := Run(p, l)
		need(t, "Run", e, api.OK)
		values := map[string]string{}
		for i, x := range l {
			if x.Kind == set {
				values[string(x.Value)] = string(x.Key)
			}
			if !r[i].Found {
				continue
			}
			told++
			if values[string(r[i].Value)] != string(x.Key) {
				t.Fatalf("seed %d, act %d: %q has %q", seed, i, x.Key, r[i].Value)
			}
		}
	}
	if told < 300 {
		t.Errorf("%d values", told)
	}
}
