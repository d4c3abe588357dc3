package replay

import (
	"bytes"
	"fmt"
	"math"
	"reflect"
	"slices"
	"testing"

	"sgraffito/api"
	"sgraffito/cache"
	"sgraffito/flash"
	"sgraffito/plan"
	"sgraffito/script"
)

// The kinds of acts, as the chapter of layer 20 numbers them.
const (
	get = iota
	set
	remove
	flush
	checkpoint
	tick
	arm
	crash
	rot
	stats
	kinds
)

// small is the plan with which most is tried: regions of 308 bytes in 4 sectors of 77,
// a log of 5 sectors of 3 changes, up to 8 slots. flat has but one slot, lean up to 8;
// these two and odd have the fewest pages that may be. wide has great numbers.
var (
	small = plan.Plan{Sectors: 140, Size: 96, Regions: 5, RegionSectors: 4, LogSectors: 5, Depth: 3, Memory: 8, Seed: 7}
	flat  = plan.Plan{Sectors: 22, Size: 96, Regions: 3, RegionSectors: 1, LogSectors: 4, Depth: 0, Memory: 8}
	lean  = plan.Plan{Sectors: 49, Size: 96, Regions: 3, RegionSectors: 2, LogSectors: 4, Depth: 3, Memory: 8, Seed: math.MaxUint64}
	odd   = plan.Plan{Sectors: 147, Size: 131, Regions: 7, RegionSectors: 3, LogSectors: 9, Depth: 5, Memory: 11, Seed: 1 << 63}
	wide  = plan.Plan{Sectors: 2000, Size: 512, Regions: 8, RegionSectors: 16, LogSectors: 32, Depth: 8, Memory: 64, Seed: 99}
	plans = []plan.Plan{small, flat, lean, odd, wide}
)

// wrongActs are some that may not be.
var wrongActs = []script.Act{
	{Kind: -1}, {Kind: kinds}, {Kind: 256}, {Kind: math.MinInt64}, {Kind: math.MaxInt64},
	{Kind: get, Key: make([]byte, 65536)}, {Kind: get, Value: []byte("v")}, {Kind: get, Num: 1}, {Kind: get, Nums: []int{0}},
	{Kind: set, Key: []byte("k"), Value: make([]byte, 65536)}, {Kind: set, Key: []byte("k"), Nums: []int{1}},
	{Kind: remove, Key: []byte("k"), Value: []byte("v")}, {Kind: remove, Key: []byte("k"), Num: -1},
	{Kind: flush, Num: 1}, {Kind: checkpoint, Key: []byte("k")}, {Kind: tick, Num: 1, Nums: []int{1}},
	{Kind: arm, Num: 1, Key: []byte("k")}, {Kind: crash, Num: 1}, {Kind: crash, Nums: make([]int, 101)},
	{Kind: rot}, {Kind: rot, Nums: []int{0, 0}}, {Kind: rot, Nums: []int{0, 0, 1, 0}}, {Kind: stats, Num: 1},
}

// need fails the test at once, if an error is another one.
func need(t *testing.T, name string, got, want api.Errno) {
	t.Helper()
	if got != want {
		t.Fatalf("%s: error %d, want %d", name, got, want)
	}
}

// machine tells a new one.
func machine(t *testing.T, p plan.Plan) *Machine {
	t.Helper()
	m, e := New(p)
	need(t, "New", e, api.OK)
	return m
}

// alike tells whether two replies are the same; a list that is empty may be nil.
func alike(x, y Reply) bool {
	return x.Err == y.Err && x.Found == y.Found && bytes.Equal(x.Value, y.Value) && slices.Equal(x.Nums, y.Nums)
}

// same tells whether two devices are alike, their pasts and counts, too.
func same(x, y *flash.Device) bool { return reflect.DeepEqual(x.Copy(), y.Copy()) }

// does holds what a machine tells of an act to what is wanted.
func does(t *testing.T, m *Machine, x script.Act, want Reply) {
	t.Helper()
	if got := m.Do(x); !alike(got, want) {
		t.Fatalf("%s: %+v, want %+v", named(x), got, want)
	}
}

// named tells an act in short.
func named(x script.Act) string {
	return fmt.Sprintf("%d %q %q %d %v", x.Kind, x.Key, x.Value, x.Num, x.Nums)
}

// getOf, setOf and so on tell acts.
func getOf(key string) script.Act        { return script.Act{Kind: get, Key: []byte(key)} }
func setOf(key, value string) script.Act { return endOf(key, value, 0) }
func endOf(key, value string, ttl int) script.Act {
	return script.Act{Kind: set, Key: []byte(key), Value: []byte(value), Num: ttl}
}
func removeOf(key string) script.Act          { return script.Act{Kind: remove, Key: []byte(key)} }
func numOf(kind, n int) script.Act            { return script.Act{Kind: kind, Num: n} }
func numsOf(kind int, nums ...int) script.Act { return script.Act{Kind: kind, Nums: nums} }

// errs tells the errors of replies.
func errs(l []Reply) []api.Errno {
	var list []api.Errno
	for _, x := range l {
		list = append(list, x.Err)
	}
	return list
}

// P21.1: a new machine has a device of the plan, and on it a cache that was formatted.
func TestNew(t *testing.T) {
	for _, p := range plans {
		m := machine(t, p)
		d := flash.New(p.Sectors, p.Size)
		c, e := cache.Format(d, p)
		need(t, "Format", e, api.OK)
		if !same(m.Device(), d) || m.Cache() == nil || m.Cache().Stats() != c.Stats() || !slices.Equal(m.Cache().Counts(), c.Counts()) {
			t.Errorf("%+v: %+v, want %+v", p, m.Cache().Stats(), c.Stats())
		}
		if x := machine(t, p); x == m || x.Device() == m.Device() || x.Cache() == m.Cache() {
			t.Error("two machines have one device, or one cache")
		}
	}
}

// P21.1: ErrPlan of a plan without a layout, of New and of Run, there ahead of what acts are.
func TestPlan(t *testing.T) {
	wrong := []plan.Plan{{}, small, small, small, small, small, small, small, flat}
	wrong[1].Sectors = 0
	wrong[2].Size = 95
	wrong[3].Sectors = 1 << 15
	wrong[4].Regions = 2
	wrong[5].LogSectors = 3
	wrong[6].Depth = 9
	wrong[7].Memory = math.MinInt64
	wrong[8].Sectors--
	for _, p := range wrong {
		if m, e := New(p); e != api.ErrPlan || m != nil {
			t.Errorf("New(%+v): error %d", p, e)
		}
		for _, l := range [][]script.Act{nil, {getOf("k")}, {{Kind: 99}}, make([]script.Act, 1<<16+1)} {
			if r, e := Run(p, l); e != api.ErrPlan || len(r) != 0 {
				t.Errorf("Run(%+v): error %d, %d replies", p, e, len(r))
			}
		}
	}
}

// P21.1, the example: Set(k, v, 0), Flush, Crash, Get(k): OK, OK, OK, and v.
func TestExample(t *testing.T) {
	for _, p := range plans {
		r, e := Run(p, []script.Act{setOf("k", "v"), {Kind: flush}, {Kind: crash}, getOf("k")})
		need(t, "Run", e, api.OK)
		want := []Reply{{}, {}, {}, {Found: true, Value: []byte("v")}}
		if !slices.EqualFunc(r, want, alike) {
			t.Errorf("%+v, want %+v", r, want)
		}
	}
}

// P21.1: Get, Set, Delete, Flush, Checkpoint and Tick tell what the cache's calls tell.
func TestCalls(t *testing.T) {
	m := machine(t, small)
	value := func(s string) Reply { return Reply{Found: true, Value: []byte(s)} }
	err := func(e api.Errno) Reply { return Reply{Err: e} }
	for _, x := range []struct {
		act  script.Act
		want Reply
	}{
		{getOf("k"), Reply{}},
		{setOf("k", "v"), Reply{}},
		{getOf("k"), value("v")},
		{setOf("k", ""), Reply{}},
		{getOf("k"), value("")},
		{getOf(""), err(api.ErrKey)},
		{getOf(string(make([]byte, 65))), err(api.ErrKey)},
		{setOf("", "v"), err(api.ErrKey)},
		{setOf(string(make([]byte, 65535)), "v"), err(api.ErrKey)},
		{setOf("k", string(make([]byte, 4097))), err(api.ErrValue)},
		{setOf("k", string(make([]byte, 4096))), err(api.ErrLong)},
		{endOf("k", "v", -1), err(api.ErrRange)},
		{endOf("k", "v", math.MinInt64), err(api.ErrRange)},
		{endOf("k", "v", 1<<48+1), err(api.ErrRange)},
		{getOf("k"), value("")},
		{removeOf(""), err(api.ErrKey)},
		{removeOf("no"), Reply{}},
		{removeOf("k"), Reply{}},
		{getOf("k"), Reply{}},
		{endOf("e", "w", 5), Reply{}},
		{numOf(tick, 4), Reply{}},
		{getOf("e"), value("w")},
		{numOf(tick, -1), err(api.ErrRange)},
		{numOf(tick, 1<<48-3), err(api.ErrRange)},
		{numOf(tick, 0), Reply{}},
		{getOf("e"), value("w")},
		{numOf(tick, 1), Reply{}},
		{getOf("e"), Reply{}},
		{script.Act{Kind: flush}, Reply{}},
		{script.Act{Kind: checkpoint}, Reply{}},
		{numOf(arm, 5), Reply{}},
	} {
		does(t, m, x.act, x.want)
	}
	if got, want := m.Cache().Counts(), []int{5, 3, 3, 2, 1, 3, 2}; !slices.Equal(got, want) {
		t.Errorf("counts %v, want %v", got, want)
	}
}

// P21.1: Stats does nothing, and tells nine numbers, in that order.
func TestStats(t *testing.T) {
	m := machine(t, small)
	does(t, m, script.Act{Kind: stats}, Reply{Nums: []int{0, 2, 0, 308, 1, 5, 3, 0, 0}})
	for n := range 60 {
		does(t, m, endOf(fmt.Sprint("key ", n), "value", 1), Reply{})
		does(t, m, numOf(tick, n), Reply{})
		before, s := m.Device().Copy(), m.Cache().Stats()
		does(t, m, script.Act{Kind: stats}, Reply{Nums: []int{s.Time, s.Gen, s.Depth, s.Where, s.Oldest, s.Left, s.Held, s.Lost, s.Splits}})
		if !same(before, m.Device()) || m.Cache().Stats() != s {
			t.Fatal("Stats did something")
		}
	}
	different := map[int]bool{}
	for _, n := range m.Do(script.Act{Kind: stats}).Nums {
		different[n] = true
	}
	if len(different) < 8 { // so that two that changed places would be seen
		t.Errorf("%d different numbers of 9", len(different))
	}
}

// P21.1: Arm lets the device go down at a write or a sync: that act tells ErrDown, those behind it
// ErrState, till a crash; below 1 the device is not armed any more.
func TestArm(t *testing.T) {
	m := machine(t, small)
	does(t, m, setOf("k", "v"), Reply{})
	does(t, m, script.Act{Kind: flush}, Reply{})
	does(t, m, setOf("k", "w"), Reply{})
	does(t, m, numOf(arm, 3), Reply{})
	does(t, m, numOf(arm, 0), Reply{})
	does(t, m, script.Act{Kind: flush}, Reply{})
	does(t, m, numOf(arm, 1), Reply{})
	does(t, m, numOf(arm, math.MinInt64), Reply{})
	does(t, m, script.Act{Kind: checkpoint}, Reply{})
	for n := 1; n <= 3; n++ { // a Flush is two writes and a sync
		does(t, m, setOf("k", "x"), Reply{})
		does(t, m, numOf(arm, n), Reply{})
		does(t, m, script.Act{Kind: flush}, Reply{Err: api.ErrDown})
		if !m.Device().Down() || !m.Cache().Dead() {
			t.Error("the device is not down, or the cache not dead")
		}
		for _, x := range []script.Act{getOf("k"), setOf("k", "y"), removeOf("k"), {Kind: flush}, {Kind: checkpoint}, numOf(tick, 1)} {
			does(t, m, x, Reply{Err: api.ErrState})
		}
		does(t, m, script.Act{Kind: stats}, Reply{Nums: make([]int, 9)})
		does(t, m, numOf(arm, 9), Reply{})
		before := m.Device().Copy()
		does(t, m, numsOf(rot, 139, 95, 1), Reply{})
		need(t, "Rot", before.Rot(139, 95, 1), api.OK)
		if !same(before, m.Device()) {
			t.Error("Rot is not done while the device is down")
		}
		does(t, m, numsOf(crash), Reply{})
		does(t, m, getOf("k"), Reply{Found: true, Value: []byte("w")})
	}
	does(t, m, numOf(arm, 4), Reply{})
	does(t, m, setOf("k", "z"), Reply{})
	does(t, m, script.Act{Kind: flush}, Reply{})
}

// P21.1: a Crash is a crash with these fates, and a cache is opened behind it; the device is not
// armed any more, nor down.
func TestFates(t *testing.T) {
	for _, fates := range [][]int{nil, {}, {96}, {96, 96}, {40, 96}, {96, 40}, {-1, -1}, {math.MinInt64, math.MaxInt64}, {96, 96, 96, 96}, make([]int, 100)} {
		m := machine(t, small)
		does(t, m, setOf("k", "v"), Reply{})
		does(t, m, script.Act{Kind: flush}, Reply{})
		does(t, m, setOf("k", "w"), Reply{})
		does(t, m, numOf(arm, 3), Reply{})
		does(t, m, script.Act{Kind: flush}, Reply{Err: api.ErrDown})
		d, was := m.Device().Copy(), m.Cache()
		does(t, m, numsOf(crash, fates...), Reply{})
		d.Crash(fates)
		c, e := cache.Open(d)
		need(t, "Open", e, api.OK)
		if !same(d, m.Device()) || m.Cache() == nil || m.Cache() == was || m.Cache().Stats() != c.Stats() {
			t.Errorf("fates %v: %+v, want %+v", fates, m.Cache().Stats(), c.Stats())
		}
		value, is, _ := c.Get([]byte("k"))
		does(t, m, getOf("k"), Reply{Found: is, Value: value})
		whole := len(fates) > 1 && (fates[0]%97+97)%97 == 96 && (fates[1]%97+97)%97 == 96
		if whole != (string(value) == "w") {
			t.Errorf("fates %v: %q", fates, value)
		}
	}
}

// P21.1: Rot turns the bits of its third number modulo 256; what there is not is ErrRange.
func TestRot(t *testing.T) {
	m := machine(t, small)
	for _, x := range []struct {
		mask int
		bits byte
	}{{1, 1}, {255, 255}, {256, 0}, {257, 1}, {-1, 255}, {-256, 0}, {-255, 1}, {128, 128}, {math.MinInt64, 0}, {math.MaxInt64, 255}, {1<<32 + 6, 6}, {0, 0}} {
		for _, at := range []int{0, 70, 139} {
			d := m.Device().Copy()
			need(t, "Rot", d.Rot(at, 95, x.bits), api.OK)
			does(t, m, numsOf(rot, at, 95, x.mask), Reply{})
			if !same(d, m.Device()) {
				t.Errorf("mask %d: not the bits %d", x.mask, x.bits)
			}
		}
	}
	d := m.Device().Copy()
	for _, x := range [][]int{{-1, 0, 1}, {140, 0, 1}, {0, -1, 1}, {0, 96, 1}, {256, 0, 1}, {1 << 32, 0, 1}, {0, 1 << 32, 0}, {math.MinInt64, math.MaxInt64, 1}} {
		does(t, m, numsOf(rot, x...), Reply{Err: api.ErrRange})
	}
	if !same(d, m.Device()) {
		t.Error("it is changed beside an error")
	}
}

// P21.1: if no cache can be opened behind a crash, there is none: calls are those of a nil one, and
// what needs no cache is done still; a later crash may find one again.
func TestNoCache(t *testing.T) {
	m := machine(t, small)
	does(t, m, setOf("k", "v"), Reply{})
	does(t, m, script.Act{Kind: flush}, Reply{})
	bothRot := func() {
		for at := range 2 {
			does(t, m, numsOf(rot, at, 50, 255), Reply{})
		}
	}
	bothRot()
	does(t, m, getOf("k"), Reply{Found: true, Value: []byte("v")})
	for range 2 {
		does(t, m, numsOf(crash, 1, 2, 3), Reply{Err: api.ErrLost})
		if m.Cache() != nil {
			t.Error("there is a cache")
		}
		before := m.Device().Copy()
		for _, x := range []script.Act{getOf("k"), setOf("k", "v"), removeOf("k"), {Kind: flush}, {Kind: checkpoint}, numOf(tick, 1), numOf(tick, -1), getOf("")} {
			does(t, m, x, Reply{Err: api.ErrArg})
		}
		does(t, m, script.Act{Kind: stats}, Reply{Nums: make([]int, 9)})
		if !same(before, m.Device()) {
			t.Error("a call of no cache did something")
		}
		does(t, m, numOf(arm, 1), Reply{})
		need(t, "Sync", m.Device().Sync(), api.ErrDown)
		does(t, m, script.Act{Kind: checkpoint}, Reply{Err: api.ErrArg})
	}
	bothRot()
	does(t, m, numsOf(crash), Reply{})
	does(t, m, getOf("k"), Reply{Found: true, Value: []byte("v")})
}

// P21.1: of what may be no act ErrOp, and nothing is done: not with a cache, not with a dead one, not
// without one.
func TestWrongActs(t *testing.T) {
	m := machine(t, small)
	held := func() {
		t.Helper()
		before, s, c := m.Device().Copy(), m.Cache().Stats(), m.Cache()
		counts := c.Counts()
		for _, x := range wrongActs {
			does(t, m, x, Reply{Err: api.ErrOp})
			if !same(before, m.Device()) || m.Cache() != c || c.Stats() != s || !slices.Equal(c.Counts(), counts) {
				t.Fatalf("%s: something was done", named(x))
			}
		}
	}
	does(t, m, setOf("k", "v"), Reply{})
	held()
	does(t, m, numOf(arm, 1), Reply{})
	held()
	does(t, m, script.Act{Kind: flush}, Reply{Err: api.ErrDown})
	held()
	for at := range 2 {
		does(t, m, numsOf(rot, at, 50, 255), Reply{})
	}
	does(t, m, numsOf(crash), Reply{Err: api.ErrLost})
	held()
}

// P21.1: of nil all acts are ErrOp; there is no device, and no cache.
func TestNil(t *testing.T) {
	var m *Machine
	for kind := range kinds {
		x := script.Act{Kind: kind}
		if kind == rot {
			x.Nums = make([]int, 3)
		}
		does(t, m, x, Reply{Err: api.ErrOp})
	}
	for _, x := range wrongActs {
		does(t, m, x, Reply{Err: api.ErrOp})
	}
	if m.Device() != nil || m.Cache() != nil {
		t.Error("nil has something")
	}
}

// P21.1: Run tells ErrLong of more than 2^16 acts, ahead of acts that may not be, and ErrOp of one
// that may not be, wherever it stands; else as many replies as there are acts.
func TestRun(t *testing.T) {
	if r, e := Run(small, nil); e != api.OK || len(r) != 0 {
		t.Errorf("error %d, %d replies", e, len(r))
	}
	l := make([]script.Act, 1<<16)
	for i := range l {
		l[i] = numOf(tick, 1)
	}
	l[1<<16-1] = script.Act{Kind: stats}
	r, e := Run(small, l)
	if e != api.OK || len(r) != 1<<16 || r[1<<16-1].Nums[0] != 1<<16-1 {
		t.Errorf("error %d, %d replies", e, len(r))
	}
	for _, x := range []script.Act{{Kind: stats}, {Kind: 99}} {
		if r, e := Run(small, append(slices.Clip(l), x)); e != api.ErrLong || len(r) != 0 {
			t.Errorf("error %d, %d replies", e, len(r))
		}
	}
	right := []script.Act{setOf("k", "v"), {Kind: flush}, getOf("k")}
	for i := range right {
		for _, x := range wrongActs {
			m := slices.Clone(right)
			m[i] = x
			if r, e := Run(small, m); e != api.ErrOp || len(r) != 0 {
				t.Errorf("%d, %s: error %d, %d replies", i, named(x), e, len(r))
			}
		}
	}
}

// P21.1: errors of acts are no errors of Run, and keep nothing behind them from being done.
func TestErrorsWithin(t *testing.T) {
	r, e := Run(small, []script.Act{getOf(""), setOf("k", "v"), numsOf(rot, 999, 0, 0), numOf(arm, 1), {Kind: flush}, {Kind: flush}, numsOf(crash, 96), getOf("k")})
	need(t, "Run", e, api.OK)
	want := []api.Errno{api.ErrKey, api.OK, api.ErrRange, api.OK, api.ErrDown, api.ErrState, api.OK, api.OK}
	if !slices.Equal(errs(r), want) || r[7].Found {
		t.Errorf("%v, want %v", errs(r), want)
	}
}

// R4: what is handed in is not changed, nor the room behind it, and not kept; what is handed out is new
// memory.
func TestMemory(t *testing.T) {
	key, value := []byte("key...."), []byte("value....")
	fates := []int{5, 6, 7, 8}
	m := machine(t, small)
	acts := []script.Act{
		{Kind: set, Key: key[:3], Value: value[:5]}, {Kind: get, Key: key[:3]}, {Kind: flush}, {Kind: crash, Nums: fates[:2]},
		{Kind: remove, Key: key[3:4]}, {Kind: rot, Nums: fates[:3]}, {Kind: stats},
	}
	for _, x := range acts {
		m.Do(x)
	}
	if _, e := Run(small, acts[:6]); e != api.OK {
		t.Error(e)
	}
	if string(key) != "key...." || string(value) != "value...." || !slices.Equal(fates, []int{5, 6, 7, 8}) || acts[6].Kind != stats {
		t.Error("what was handed in is changed")
	}
	clear(key)
	clear(value)
	clear(fates)
	want := Reply{Found: true, Value: []byte("value")}
	does(t, m, getOf("key"), want)
	got := m.Do(getOf("key"))
	clear(got.Value)
	_ = append(got.Value, "more than there was"...)
	does(t, m, getOf("key"), want)
	numbers := m.Do(script.Act{Kind: stats})
	again := slices.Clone(numbers.Nums)
	clear(numbers.Nums)
	does(t, m, script.Act{Kind: stats}, Reply{Nums: again})

	r, e := Run(small, []script.Act{setOf("k", "v"), getOf("k"), getOf("k"), {Kind: stats}, {Kind: stats}})
	need(t, "Run", e, api.OK)
	clear(r[1].Value)
	clear(r[3].Nums)
	if string(r[2].Value) != "v" || r[4].Nums[1] != 2 {
		t.Errorf("two replies share memory: %+v", r)
	}
}
