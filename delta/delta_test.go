package delta

import (
	"bytes"
	"fmt"
	"math"
	"math/rand/v2"
	"reflect"
	"slices"
	"testing"

	"sgraffito/api"
	"sgraffito/flash"
	"sgraffito/leaf"
	"sgraffito/plan"
	"sgraffito/region"
)

// small is the plan with which most is tried: a log of 4 sectors, from sector 2
// on, each of 3 changes.
var small = plan.Plan{Sectors: 60, Size: 96, Regions: 3, RegionSectors: 2, LogSectors: 4, Depth: 2, Memory: 8}

// plans are small and others: of another number of sectors, of other sizes, of
// as many and as great sectors as there may be.
var plans = []plan.Plan{
	small,
	{Sectors: 60, Size: 96, Regions: 4, RegionSectors: 1, LogSectors: 5, Depth: 0, Memory: 8},
	{Sectors: 200, Size: 131, Regions: 5, RegionSectors: 7, LogSectors: 9, Depth: 3, Memory: 20},
	{Sectors: 16384, Size: 512, Regions: 64, RegionSectors: 32, LogSectors: 256, Depth: 8, Memory: 256, Seed: 1},
}

// bad are some that have no layout, or not small's sectors and size.
var bad = []plan.Plan{
	{},
	{Sectors: 60, Size: 96, Regions: 3, RegionSectors: 2, LogSectors: 3, Depth: 2, Memory: 8},
	{Sectors: 60, Size: 96, Regions: 3, RegionSectors: 2, LogSectors: 257, Depth: 2, Memory: 8},
	{Sectors: 61, Size: 96, Regions: 3, RegionSectors: 2, LogSectors: 4, Depth: 2, Memory: 8},
	{Sectors: 60, Size: 97, Regions: 3, RegionSectors: 2, LogSectors: 4, Depth: 2, Memory: 8},
}

// change tells a change that hangs on a seed: each fifth takes away.
func change(seed int) Change {
	x := Change{Hash: uint64(seed) * 0x9E3779B97F4A7C15}
	if seed%5 == 4 {
		x.Drop = true
		return x
	}
	x.Loc = region.Loc{Region: seed % (1 << 40), At: seed * 7 % 65536, Size: seed * 13 % 65536}
	return x
}

// changes tells the changes of the seeds from one on.
func changes(from, n int) []Change {
	var list []Change
	for i := range n {
		list = append(list, change(from+i))
	}
	return list
}

// device tells a new one of a plan's sectors and size.
func device(p plan.Plan) *flash.Device { return flash.New(p.Sectors, p.Size) }

// unchanged tells whether a device is still as a copy of it is.
func unchanged(d, before *flash.Device) bool { return reflect.DeepEqual(d.Copy(), before.Copy()) }

// need fails the test at once, if an error is another one.
func need(t *testing.T, name string, got, want api.Errno) {
	t.Helper()
	if got != want {
		t.Fatalf("%s: error %d, want %d", name, got, want)
	}
}

// formatted tells a log of a new device.
func formatted(t *testing.T, p plan.Plan) (*flash.Device, *Log) {
	t.Helper()
	d := device(p)
	l, e := Format(d, p)
	need(t, "Format", e, api.OK)
	return d, l
}

// added adds changes with a time.
func added(t *testing.T, l *Log, time int, list ...Change) {
	t.Helper()
	for _, x := range list {
		need(t, "Add", l.Add(x, time), api.OK)
	}
}

// is holds a log to its numbers.
func is(t *testing.T, name string, l *Log, next, left int) {
	t.Helper()
	if l.Next() != next || l.Left() != left {
		t.Fatalf("%s: next %d, left %d, want %d, %d", name, l.Next(), l.Left(), next, left)
	}
}

// short tells changes, but not too many of them.
func short(list []Change) string { return fmt.Sprintf("%d: %v", len(list), list[:min(len(list), 12)]) }

// opens holds a device to the log that is opened of it, and to what that reads;
// it is opened of a copy, so that all is there still.
func opens(t *testing.T, name string, d *flash.Device, p plan.Plan, from int, want []Change, time, next, left int) *Log {
	t.Helper()
	d = d.Copy()
	before := d.Copy()
	l, list, at, e := Open(d, p, from)
	need(t, name, e, api.OK)
	if !slices.Equal(list, want) || at != time {
		t.Fatalf("%s: %s, time %d, want %s, %d", name, short(list), at, short(want), time)
	}
	is(t, name, l, next, left)
	if !unchanged(d, before) {
		t.Fatalf("%s: the device is another one", name)
	}
	return l
}

// lowest tells a number of so many bytes, the lowest first.
func lowest(n uint64, width int) []byte {
	var b []byte
	for range width {
		b = append(b, byte(n))
		n /= 256
	}
	return b
}

// load tells a sector's load, as the document words it.
func load(time int, list []Change) []byte {
	b := append(lowest(uint64(time), 8), byte(len(list)))
	for _, x := range list {
		if x.Drop {
			b = append(b, 2)
		} else {
			b = append(b, 1)
		}
		b = append(b, lowest(x.Hash, 8)...)
		b = append(b, lowest(uint64(x.Loc.Region), 8)...)
		b = append(b, lowest(uint64(x.Loc.At), 2)...)
		b = append(b, lowest(uint64(x.Loc.Size), 2)...)
	}
	return b
}

// put writes a leaf, as it may stand in a sector of the log.
func put(t *testing.T, d *flash.Device, place int, x leaf.Leaf) {
	t.Helper()
	need(t, "Put", leaf.Put(d, 2+place, x), api.OK)
}

// sheets writes sectors with these numbers, each with a change of that number,
// and that number as its time.
func sheets(t *testing.T, d *flash.Device, p plan.Plan, numbers ...int) {
	t.Helper()
	for _, n := range numbers {
		place := n % p.LogSectors
		put(t, d, place, leaf.Leaf{Kind: 4, Place: place, Stamp: n, Load: load(n, changes(n, 1))})
	}
}

// P12.1: as many changes as go into a load go into a sector; none, where none is
// of a leaf.
func TestPer(t *testing.T) {
	for size := -600; size <= 600; size++ {
		want := 0
		if size >= 96 && size <= 512 {
			for 19+9+21*(want+1) <= size {
				want++
			}
		}
		if got := Per(size); got != want {
			t.Errorf("Per(%d) is %d, want %d", size, got, want)
		}
	}
	for _, size := range []int{math.MinInt, math.MaxInt, 1 << 32, 95, 513, 0} {
		if got := Per(size); got != 0 {
			t.Errorf("Per(%d) is %d", size, got)
		}
	}
	if Per(96) != 3 || Per(512) != 23 {
		t.Errorf("Per(96) is %d, Per(512) is %d", Per(96), Per(512))
	}
}

// P12.1: a log is made of a device and a plan that is just its; it counts from 1
// on, and its next sector is 1, whatever stands there.
func TestFormat(t *testing.T) {
	for _, p := range plans {
		d := device(p)
		sheets(t, d, p, 1, 2, 2+p.LogSectors)
		before := d.Copy()
		l, e := Format(d, p)
		need(t, "Format", e, api.OK)
		is(t, "formatted", l, 1, p.LogSectors)
		if !unchanged(d, before) {
			t.Error("the device is another one")
		}
	}
	d := device(small)
	d.Arm(1)
	d.Sync()
	l, e := Format(d, small)
	need(t, "of a device that is down", e, api.OK)
	is(t, "of a device that is down", l, 1, 4)
}

// P12.1: ErrArg of no device ahead of ErrPlan, that ahead of ErrArg of a number
// that may not be, and that ahead of the device's error.
func TestFormatAndOpenWrong(t *testing.T) {
	down := device(small)
	sheets(t, down, small, 1)
	down.Arm(1)
	down.Sync()
	try := func(name string, d *flash.Device, p plan.Plan, from int, format, open api.Errno) {
		t.Helper()
		before := d.Copy()
		l, e := Format(d, p)
		if e != format || (l != nil) != (e == api.OK) {
			t.Errorf("Format, %s: error %d, want %d", name, e, format)
		}
		l, list, time, e := Open(d, p, from)
		if e != open || (l != nil) != (e == api.OK) || list != nil || time != 0 {
			t.Errorf("Open, %s: %v, %d, error %d, want %d", name, list, time, e, open)
		}
		if !unchanged(d, before) {
			t.Errorf("%s: the device is another one", name)
		}
	}
	for _, from := range []int{1, 2, 1<<40 - 1, 1 << 40} {
		try("right", device(small), small, from, api.OK, api.OK)
		try("down", down, small, from, api.OK, api.ErrDown)
		for _, p := range bad {
			try("no plan of its", device(small), p, from, api.ErrPlan, api.ErrPlan)
			try("no plan of its, down", down, p, from, api.ErrPlan, api.ErrPlan)
			try("no device, no plan", nil, p, from, api.ErrArg, api.ErrArg)
		}
		try("no device", nil, small, from, api.ErrArg, api.ErrArg)
	}
	for _, from := range []int{math.MinInt, -1 << 40, -1, 0, 1<<40 + 1, 1 << 41, math.MaxInt} {
		try("from", device(small), small, from, api.OK, api.ErrArg)
		try("from, down", down, small, from, api.OK, api.ErrArg)
		try("from, no plan of its", device(small), bad[3], from, api.ErrPlan, api.ErrPlan)
	}
}

// P12.1: a log that is opened reads the sectors one behind the other from a
// number on, as long as each stands at its place with its stamp.
func TestOpenReads(t *testing.T) {
	for _, p := range plans {
		k := p.LogSectors
		for _, x := range []struct {
			stand []int
			from  int
			read  []int
			next  int
		}{
			{nil, 1, nil, 1},
			{nil, 77, nil, 77},
			{[]int{1}, 1, []int{1}, 2},
			{[]int{1, 2, 3}, 1, []int{1, 2, 3}, 4},
			{[]int{1, 2, 3}, 2, []int{2, 3}, 4},
			{[]int{1, 2, 3}, 3, []int{3}, 4},
			{[]int{1, 2, 3}, 4, nil, 4},
			{[]int{1, 2, 3}, 9, nil, 9},
			{[]int{2, 3}, 1, nil, 4},
			{[]int{1, 3}, 1, []int{1}, 4},
			{[]int{k - 1, k, k + 1, k + 2}, k - 1, []int{k - 1, k, k + 1, k + 2}, k + 3},
			{[]int{k - 1, k, k + 1, k + 2}, k, []int{k, k + 1, k + 2}, k + 3},
			{[]int{1, 2, k + 3}, 1, []int{1, 2}, k + 4},
			{[]int{k + 1, 2, 3}, 1, nil, k + 2},
			{[]int{k + 1, 2, 3}, 2, []int{2, 3}, k + 2},
			{[]int{100*k + 1}, 100*k - 1, nil, 100*k + 2},
			{[]int{1<<40 - 1}, 1<<40 - 1, []int{1<<40 - 1}, 1 << 40},
			{[]int{1 << 40, 1<<40 + 1}, 1 << 40, []int{1 << 40, 1<<40 + 1}, 1<<40 + 2},
		} {
			d := device(p)
			sheets(t, d, p, x.stand...)
			var list []Change
			time := 0
			for _, n := range x.read {
				list, time = append(list, change(n)), max(time, n)
			}
			opens(t, fmt.Sprintf("%+v", x), d, p, x.from, list, time, x.next, k-(x.next-x.from))
		}
		d := device(p)
		var all []int
		for n := range k {
			all = append(all, 1000+n)
		}
		sheets(t, d, p, all...)
		opens(t, "full", d, p, 1000, changes(1000, k), 1000+k-1, 1000+k, 0)
	}
}

// P12.1: the greatest time of what is read counts, wherever it stands; what is
// not read has none.
func TestOpenTime(t *testing.T) {
	for _, times := range [][]int{{0, 0, 0}, {9, 5, 7}, {5, 9, 7}, {5, 7, 9}, {1 << 48, 0, 0}, {0, 0, 1 << 48}} {
		d := device(small)
		for i, time := range times {
			put(t, d, i+1, leaf.Leaf{Kind: 4, Place: i + 1, Stamp: i + 1, Load: load(time, nil)})
		}
		opens(t, "all", d, small, 1, nil, slices.Max(times), 4, 1)
		opens(t, "one", d, small, 3, nil, times[2], 4, 3)
		opens(t, "none", d, small, 4, nil, 0, 4, 4)
	}
}

// P12.1: a sector is not read, if it is not of that kind, place or stamp, or its
// load is none; and no other one behind it.
func TestOpenEnds(t *testing.T) {
	right := load(7, changes(1, 3))
	with := func(at int, b ...byte) []byte {
		c := slices.Clone(right)
		copy(c[at:], b)
		return c
	}
	drop := load(7, []Change{{Drop: true, Hash: 5}})
	dropWith := func(at int) []byte {
		c := slices.Clone(drop)
		c[9+at] = 1
		return c
	}
	loads := map[string][]byte{
		"nothing":             nil,
		"no count":            right[:8],
		"one more byte":       append(slices.Clone(right), 0),
		"one byte less":       right[:len(right)-1],
		"one more change":     with(8, 4),
		"one change less":     with(8, 2),
		"none counted":        with(8, 0),
		"many counted":        with(8, 255),
		"does 0":              with(9, 0),
		"does 3":              with(9, 3),
		"the last one does 0": with(9+42, 0),
		"the last one takes":  with(9+42, 2),
		"time":                with(0, lowest(1<<48+1, 8)...),
		"great time":          with(0, lowest(1<<63, 8)...),
		"greatest time":       with(0, lowest(math.MaxUint64, 8)...),
		"region":              with(18, lowest(1<<40+1, 8)...),
		"great region":        with(18, lowest(1<<63, 8)...),
		"greatest region":     with(18, lowest(math.MaxUint64, 8)...),
		"drops of a region":   dropWith(9),
		"of a great one":      dropWith(16),
		"drops at a place":    dropWith(17),
		"at a great one":      dropWith(18),
		"drops a size":        dropWith(19),
		"a great one":         dropWith(20),
	}
	for name, b := range loads {
		d := device(small)
		sheets(t, d, small, 1, 2, 3)
		put(t, d, 2, leaf.Leaf{Kind: 4, Place: 2, Stamp: 2, Load: b})
		opens(t, name, d, small, 1, changes(1, 1), 1, 4, 1)
		opens(t, name, d, small, 2, nil, 0, 4, 2)
	}
	for name, x := range map[string]leaf.Leaf{
		"kind":  {Kind: 3, Place: 2, Stamp: 2, Load: right},
		"place": {Kind: 4, Place: 1, Stamp: 2, Load: right},
		"at":    {Kind: 4, Place: 4, Stamp: 2, Load: right},
		"stamp": {Kind: 4, Place: 2, Stamp: 1, Load: right},
		"elder": {Kind: 4, Place: 2, Stamp: 0, Load: right},
	} {
		d := device(small)
		sheets(t, d, small, 1, 2, 3)
		put(t, d, 2, x)
		opens(t, name, d, small, 1, changes(1, 1), 1, 4, 1)
	}
	for _, rot := range []int{0, 20, 95} {
		d := device(small)
		sheets(t, d, small, 1, 2, 3)
		d.Sync()
		d.Rot(2+2, rot, 1)
		opens(t, "rot", d, small, 1, changes(1, 1), 1, 4, 1)
	}
}

// P12.1: what may just be: the greatest numbers of a change, and of a time.
func TestOpenEdges(t *testing.T) {
	for _, list := range [][]Change{
		nil,
		{{}},
		{{Drop: true}},
		{{Hash: math.MaxUint64, Loc: region.Loc{Region: 1 << 40, At: 65535, Size: 65535}}},
		{{Hash: 1 << 63}, {Drop: true, Hash: math.MaxUint64}, {Loc: region.Loc{Region: 1 << 40}}},
		{{Hash: 0x0102030405060708, Loc: region.Loc{Region: 0x0a0b0c0d0e, At: 0x0102, Size: 0x0304}}},
	} {
		d := device(small)
		put(t, d, 1, leaf.Leaf{Kind: 4, Place: 1, Stamp: 1, Load: load(1<<48, list)})
		opens(t, "edges", d, small, 1, list, 1<<48, 2, 3)
		o, l := formatted(t, small)
		added(t, l, 1<<48, list...)
		need(t, "Flush", l.Flush(1<<48), api.OK)
		b, _ := o.Read(3)
		if want, _ := d.Read(3); !bytes.Equal(b, want) {
			t.Errorf("%v: %x, want %x", list, b, want)
		}
	}
}

// P12.1: the next sector is behind all stamps that stand at their places, up to
// 2^40, in leaves of that kind and place, whatever they hold.
func TestOpenNext(t *testing.T) {
	for _, p := range plans {
		k := p.LogSectors
		most := 1 << 40
		for place := range k {
			greatest := most - (most%k-place+k)%k
			for _, x := range []struct {
				leaf leaf.Leaf
				want int
			}{
				{leaf.Leaf{Kind: 4, Place: place, Stamp: place + 7*k}, place + 7*k + 1},
				{leaf.Leaf{Kind: 4, Place: place, Stamp: place + 7*k, Load: []byte("no load")}, place + 7*k + 1},
				{leaf.Leaf{Kind: 4, Place: place, Stamp: greatest}, greatest + 1},
				{leaf.Leaf{Kind: 4, Place: place, Stamp: greatest + k}, 3},
				{leaf.Leaf{Kind: 4, Place: place, Stamp: math.MaxInt - math.MaxInt%k - k + place}, 3},
				{leaf.Leaf{Kind: 4, Place: place, Stamp: place + 7*k + 1}, 3},
				{leaf.Leaf{Kind: 4, Place: place, Stamp: place + 7*k - 1}, 3},
				{leaf.Leaf{Kind: 4, Place: place + 1, Stamp: place + 7*k}, 3},
				{leaf.Leaf{Kind: 4, Place: place + 2, Stamp: place + 7*k}, 3},
				{leaf.Leaf{Kind: 3, Place: place, Stamp: place + 7*k}, 3},
				{leaf.Leaf{Kind: 4, Place: place, Stamp: 0}, 3},
			} {
				d := device(p)
				put(t, d, place, x.leaf)
				opens(t, fmt.Sprintf("%+v", x), d, p, 3, nil, 0, x.want, k-(x.want-3))
				if place%5 > 0 {
					continue
				}
				need(t, "Sync", d.Sync(), api.OK)
				d.Rot(2+place, 30, 1)
				opens(t, "rotten", d, p, 3, nil, 0, 3, k)
			}
		}
	}
}

// P12.1: sectors outside of the log do not count; of several the greatest does,
// wherever it stands.
func TestOpenGreatest(t *testing.T) {
	for _, p := range plans[:3] {
		k := p.LogSectors
		d := device(p)
		for at := range p.Sectors {
			if at < 2 || at >= 2+k {
				place := (at - 2 + k) % k
				leaf.Put(d, at, leaf.Leaf{Kind: 4, Place: place, Stamp: place + 900*k})
				leaf.Put(d, at, leaf.Leaf{Kind: 4, Place: max(at-2, 0), Stamp: 900*k + max(at-2, 0)%k})
			}
		}
		opens(t, "outside", d, p, 5, nil, 0, 5, k)
		for n := range k {
			sheets(t, d, p, n+2*k)
		}
		for place := range k {
			greatest := d.Copy()
			put(t, greatest, place, leaf.Leaf{Kind: 4, Place: place, Stamp: place + 9*k})
			opens(t, "greatest", greatest, p, 30*k, nil, 0, 30*k, k)
			opens(t, "greatest", greatest, p, 1, nil, 0, place+9*k+1, k-place-9*k)
		}
	}
}

// P12.1: of nil all numbers are 0, and all else tells ErrArg, or does nothing.
func TestNil(t *testing.T) {
	var l *Log
	is(t, "nil", l, 0, 0)
	need(t, "Add", l.Add(change(1), 5), api.ErrArg)
	need(t, "Add", l.Add(Change{Drop: true, Loc: region.Loc{Size: 1}}, -1), api.ErrArg)
	need(t, "Flush", l.Flush(0), api.ErrArg)
	need(t, "Flush", l.Flush(-1), api.ErrArg)
	l.Restart()
	is(t, "nil", l, 0, 0)
}

// P12.1, P12.2: the document's examples.
func TestExamples(t *testing.T) {
	_, l := formatted(t, small)
	is(t, "four sectors", l, 1, 4)
	added(t, l, 1, changes(1, 12)...)
	is(t, "four written", l, 5, 0)
	l.Restart()
	is(t, "restarted", l, 5, 4)
}

// wrongChanges tells changes that may not be.
func wrongChanges() []Change {
	var list []Change
	for _, n := range []int{math.MinInt, -1 << 40, -1, 65536, 1 << 20, 1<<40 + 1, math.MaxInt} {
		for _, loc := range []region.Loc{{At: n}, {Size: n}, {Region: 5, At: n, Size: 6}, {Region: 5, At: 7, Size: n}, {Region: n, At: n, Size: n}} {
			list = append(list, Change{Hash: 3, Loc: loc}, Change{Drop: true, Hash: 3, Loc: loc})
		}
		if n < 0 || n > 1<<40 {
			list = append(list, Change{Loc: region.Loc{Region: n}}, Change{Loc: region.Loc{Region: n, At: 1, Size: 1}})
		}
		list = append(list, Change{Drop: true, Loc: region.Loc{Region: n}})
	}
	for _, loc := range []region.Loc{{Region: 1}, {At: 1}, {Size: 1}, {Region: 1, At: 1, Size: 1}} {
		list = append(list, Change{Drop: true, Hash: 9, Loc: loc})
	}
	return list
}

// wrongTimes tells times that may not be.
func wrongTimes() []int { return []int{math.MinInt, -1 << 48, -1, 1<<48 + 1, 1 << 49, math.MaxInt} }

// P12.2: ErrArg of a change or a time that may not be, ahead of ErrFull, that
// ahead of the device's error; and nothing is changed by it.
func TestAddWrong(t *testing.T) {
	d, l := formatted(t, small)
	for n := range 13 {
		before, was := d.Copy(), *l
		was.under = slices.Clone(l.under)
		for _, x := range wrongChanges() {
			need(t, fmt.Sprintf("%+v", x), l.Add(x, 5), api.ErrArg)
			need(t, fmt.Sprintf("%+v", x), l.Add(x, -1), api.ErrArg)
		}
		for _, time := range wrongTimes() {
			need(t, "time", l.Add(change(n), time), api.ErrArg)
			need(t, "time", l.Flush(time), api.ErrArg)
		}
		if n == 12 {
			need(t, "full", l.Add(change(n), 5), api.ErrFull)
			need(t, "full", l.Flush(6), api.ErrFull)
			need(t, "full, but nothing is written", l.Flush(5), api.OK)
		}
		if !unchanged(d, before) || !reflect.DeepEqual(*l, was) {
			t.Fatalf("behind %d changes something was changed", n)
		}
		if n < 12 {
			added(t, l, 5, change(n))
		}
	}
	opens(t, "all", d, small, 1, changes(0, 12), 5, 5, 0)
	d.Arm(1)
	d.Sync()
	need(t, "full, down", l.Add(change(1), 5), api.ErrFull)
	need(t, "full, down", l.Flush(6), api.ErrFull)
	need(t, "wrong, full, down", l.Add(change(1), -1), api.ErrArg)
	need(t, "wrong, full, down", l.Flush(-1), api.ErrArg)
}

// P12.2: a sector is written as soon as changes fill it, with the time that was
// handed in then; a flush writes what is under way, or another time.
func TestWhenItIsWritten(t *testing.T) {
	d, l := formatted(t, small)
	var under, all []Change
	n, greatest := 0, 0
	for i, x := range []struct {
		flush       bool
		time        int
		written     bool
		next, left  int
		readsTimeOf bool
	}{
		{true, 0, false, 1, 4, false},  // at first the time was 0
		{false, 9, false, 1, 4, false}, // three changes are a sector
		{false, 8, false, 1, 4, false},
		{false, 3, true, 2, 3, false},
		{true, 3, false, 2, 3, false}, // nothing is new
		{false, 4, false, 2, 3, false},
		{true, 3, true, 3, 2, false}, // a change is under way
		{true, 0, true, 4, 1, false}, // another time
		{true, 0, false, 4, 1, false},
		{false, 0, false, 4, 1, false},
		{false, 0, false, 4, 1, false},
		{true, 7, true, 5, 0, false},
		{true, 7, false, 5, 0, false},
	} {
		if x.flush {
			need(t, "Flush", l.Flush(x.time), api.OK)
		} else {
			added(t, l, x.time, change(n))
			under = append(under, change(n))
			n++
		}
		before := all
		if x.written {
			all, under, greatest = append(all, under...), nil, max(greatest, x.time)
			b, _ := d.Read(2 + (x.next-1)%4)
			want, _ := leaf.Build(96, leaf.Leaf{Kind: 4, Place: (x.next - 1) % 4, Stamp: x.next - 1, Load: load(x.time, all[len(before):])})
			if !bytes.Equal(b, want) {
				t.Fatalf("step %d: %x, want %x", i, b, want)
			}
		}
		is(t, fmt.Sprintf("step %d", i), l, x.next, x.left)
		if d.Acts() != x.next-1 {
			t.Fatalf("step %d: %d writes", i, d.Acts())
		}
		opens(t, fmt.Sprintf("step %d", i), d, small, 1, all, greatest, x.next, x.left)
	}
}

// P12.2: a log that was opened has written no time: 0 is not written, the one
// that it read is.
func TestFlushOfOpened(t *testing.T) {
	d, l := formatted(t, small)
	need(t, "Flush", l.Flush(9), api.OK)
	o := opens(t, "opened", d, small, 1, nil, 9, 2, 3)
	need(t, "Flush of 0", o.Flush(0), api.OK)
	is(t, "0", o, 2, 3)
	need(t, "Flush of 9", o.Flush(9), api.OK)
	is(t, "9", o, 3, 2)
	need(t, "Flush of 9", o.Flush(9), api.OK)
	is(t, "9 again", o, 3, 2)
	need(t, "Flush of 0", o.Flush(0), api.OK)
	is(t, "0", o, 4, 1)
}

// P12.2: behind Restart it counts from the next sector on, what is under way is
// forgotten, and the time that was written last is still that.
func TestRestart(t *testing.T) {
	d, l := formatted(t, small)
	l.Restart()
	is(t, "nothing", l, 1, 4)
	added(t, l, 4, changes(0, 2)...)
	l.Restart()
	is(t, "under way", l, 1, 4)
	need(t, "Flush", l.Flush(0), api.OK)
	is(t, "forgotten", l, 1, 4)
	for round := range 30 {
		next := l.Next()
		added(t, l, 6, changes(round, 7)...)
		need(t, "Flush", l.Flush(6), api.OK)
		is(t, "a round", l, next+3, 1)
		opens(t, "a round", d, small, next, changes(round, 7), 6, next+3, 1)
		added(t, l, 6, change(1))
		l.Restart()
		is(t, "restarted", l, next+3, 4)
		need(t, "Flush", l.Flush(6), api.OK)
		is(t, "nothing new", l, next+3, 4)
		opens(t, "restarted", d, small, next+3, nil, 0, next+3, 4)
	}
}

// P12.2: where less than no sector is left, because what stood there is further
// on, it is full, till it counts from the next sector on.
func TestLessThanNone(t *testing.T) {
	for _, far := range []int{5, 6, 7, 8, 100, 1 << 40} {
		d := device(small)
		sheets(t, d, small, far)
		l, _, _, e := Open(d, small, 1)
		need(t, "Open", e, api.OK)
		is(t, "opened", l, far+1, 4-far)
		acts := d.Acts()
		need(t, "Add", l.Add(change(1), 1), api.ErrFull)
		need(t, "Flush", l.Flush(1), api.ErrFull)
		need(t, "nothing to flush", l.Flush(0), api.OK)
		if d.Acts() != acts {
			t.Error("something was written")
		}
		l.Restart()
		is(t, "restarted", l, far+1, 4)
		if far < 1<<40 {
			added(t, l, 3, changes(1, 3)...)
			opens(t, "added", d, small, far+1, changes(1, 3), 3, far+2, 3)
		}
	}
}

// P12.2: the device's error, where something is to be written; where nothing is,
// none.
func TestDown(t *testing.T) {
	for _, x := range []struct {
		name string
		do   func(l *Log) api.Errno
		want api.Errno
	}{
		{"goes in", func(l *Log) api.Errno { return l.Add(change(2), 5) }, api.OK},
		{"fills", func(l *Log) api.Errno { l.Add(change(2), 5); return l.Add(change(3), 5) }, api.ErrDown},
		{"flush", func(l *Log) api.Errno { return l.Flush(5) }, api.ErrDown},
		{"flush of a time", func(l *Log) api.Errno { l.Restart(); return l.Flush(6) }, api.ErrDown},
		{"nothing to flush", func(l *Log) api.Errno { l.Restart(); return l.Flush(5) }, api.OK},
	} {
		d, l := formatted(t, small)
		need(t, "Flush", l.Flush(5), api.OK)
		added(t, l, 5, change(1))
		d.Arm(1)
		need(t, "Sync", d.Sync(), api.ErrDown)
		need(t, x.name, x.do(l), x.want)
	}
	d, l := formatted(t, small)
	added(t, l, 5, changes(1, 2)...)
	d.Arm(1)
	need(t, "at which it goes down", l.Add(change(3), 5), api.ErrDown)
	d, l = formatted(t, small)
	d.Arm(1)
	need(t, "at which it goes down", l.Flush(5), api.ErrDown)
}

// P12.1: what is told is new memory, and asking changes nothing.
func TestAsking(t *testing.T) {
	d, l := formatted(t, small)
	added(t, l, 5, changes(1, 4)...)
	before, was := d.Copy(), *l
	was.under = slices.Clone(l.under)
	l.Left()
	l.Next()
	_, list, _, _ := Open(d, small, 1)
	for i := range list {
		list[i] = Change{Hash: 99}
	}
	if !unchanged(d, before) || !reflect.DeepEqual(*l, was) {
		t.Error("something was changed")
	}
	opens(t, "again", d, small, 1, changes(1, 3), 5, 2, 3)
}

// worded is a log as the document words it: all sectors that were written, by
// their numbers from 1 on.
type worded struct {
	p       plan.Plan
	per     int
	from    int
	under   []Change
	times   []int
	sectors [][]Change
	last    int
}

func (w *worded) next() int { return 1 + len(w.sectors) }

func (w *worded) left() int { return w.p.LogSectors - (w.next() - w.from) }

func (w *worded) write(time int) {
	w.sectors, w.times = append(w.sectors, w.under), append(w.times, time)
	w.under, w.last = nil, time
}

func (w *worded) add(x Change, time int) api.Errno {
	if w.left() == 0 {
		return api.ErrFull
	}
	w.under = append(w.under, x)
	if len(w.under) == w.per {
		w.write(time)
	}
	return api.OK
}

func (w *worded) flush(time int) api.Errno {
	if len(w.under) == 0 && time == w.last {
		return api.OK
	}
	if w.left() == 0 {
		return api.ErrFull
	}
	w.write(time)
	return api.OK
}

// sector tells what stands in one of the log's.
func (w *worded) sector(place int) []byte {
	for n := w.next() - 1; n >= 1; n-- {
		if n%w.p.LogSectors == place {
			b, _ := leaf.Build(w.p.Size, leaf.Leaf{Kind: 4, Place: place, Stamp: n, Load: load(w.times[n-1], w.sectors[n-1])})
			return b
		}
	}
	return make([]byte, w.p.Size)
}

// same holds a log and its device to the words.
func (w *worded) same(t *testing.T, l *Log, d *flash.Device) {
	t.Helper()
	is(t, "as worded", l, w.next(), w.left())
	if d.Acts() != len(w.sectors) {
		t.Fatalf("%d writes and syncs, want %d", d.Acts(), len(w.sectors))
	}
	for at := range w.p.Sectors {
		b, _ := d.Read(at)
		want := make([]byte, w.p.Size)
		if at >= 2 && at < 2+w.p.LogSectors {
			want = w.sector(at - 2)
		}
		if !bytes.Equal(b, want) {
			t.Fatalf("sector %d: %x, want %x", at, b, want)
		}
	}
	greatest := 0
	for _, time := range w.times[w.from-1:] {
		greatest = max(greatest, time)
	}
	opens(t, "as worded", d, w.p, w.from, slices.Concat(w.sectors[w.from-1:]...), greatest, w.next(), w.left())
}

// P12.2: whatever is done without a crash, each log is as the document words it.
func TestAsWorded(t *testing.T) {
	for i, p := range plans[:3] {
		for seed := range uint64(15) {
			r := rand.New(rand.NewPCG(seed, uint64(i)))
			d, l := formatted(t, p)
			w := &worded{p: p, per: (p.Size - 28) / 21, from: 1}
			full := 0
			for step := range 90 {
				time := r.IntN(3)
				switch r.IntN(12) {
				case 0, 1:
					need(t, "Flush", l.Flush(time), w.flush(time))
				case 2:
					if r.IntN(3) == 0 || full > 5 {
						l.Restart()
						w.from, w.under, full = w.next(), nil, 0
					}
				default:
					e := w.add(change(step), time)
					need(t, "Add", l.Add(change(step), time), e)
					if e == api.ErrFull {
						full++
					}
				}
				w.same(t, l, d)
			}
		}
	}
}

// P12.2: of a plan with the greatest numbers, too, once round and on.
func TestGreatestPlan(t *testing.T) {
	p := plans[3]
	d, l := formatted(t, p)
	n := 0
	for l.Left() > 0 {
		added(t, l, n, change(n))
		n++
	}
	if n != 256*23 {
		t.Fatalf("%d changes went in", n)
	}
	opens(t, "full", d, p, 1, changes(0, n), n-1, 257, 0)
	l.Restart()
	added(t, l, 7, changes(5, 100)...)
	need(t, "Flush", l.Flush(7), api.OK)
	opens(t, "restarted", d, p, 257, changes(5, 100), 7, 262, 251)
	opens(t, "elder", d, p, 6, append(changes(23*5, 251*23), changes(5, 100)...), n-1, 262, 0)
}

// story is what was done with a log since it counts.
type story struct {
	from    int      // from where it counts
	all     []Change // what was added
	flushed int      // how many of these were flushed
	kept    int      // how many of these ahead of a sync
	time    int      // the greatest time that was flushed
	timeFar int      // the greatest one of these ahead of a sync
}

// run adds, flushes and syncs till the device goes down, or enough was done.
func run(r *rand.Rand, d *flash.Device, l *Log) story {
	s := story{from: l.Next()}
	time := 0
	for step := range 60 {
		time += r.IntN(2)
		switch r.IntN(7) {
		case 0:
			if l.Left() == 0 {
				continue
			}
			next := l.Next()
			if l.Flush(time) != api.OK {
				return s
			}
			s.flushed = len(s.all)
			if l.Next() > next {
				s.time = time
			}
		case 1:
			if d.Sync() != api.OK {
				return s
			}
			s.kept, s.timeFar = s.flushed, s.time
		case 2:
			if l.Left() == 0 || r.IntN(5) == 0 {
				l.Restart()
				s = story{from: l.Next()}
			}
		default:
			if l.Left() == 0 {
				continue
			}
			s.all = append(s.all, change(step+r.IntN(100)*60))
			if l.Add(s.all[len(s.all)-1], time) != api.OK {
				return s
			}
		}
	}
	return s
}

// fates tells one for each loose write: nothing, all, or some bytes of it.
func fates(r *rand.Rand, d *flash.Device) []int {
	list := make([]int, d.Loose())
	for i := range list {
		switch r.IntN(3) {
		case 0:
			list[i] = d.Size()
		case 1:
			list[i] = r.IntN(d.Size() + 1)
		}
	}
	return list
}

// P12.3: wherever the device goes down, and whatever a crash lets be done: a log
// that is opened from where it counted reads the beginning of all that was
// added, and at least what was flushed ahead of a sync.
func TestCrashes(t *testing.T) {
	counts := map[string]int{}
	for i, p := range plans[:3] {
		for seed := range uint64(1500) {
			r := rand.New(rand.NewPCG(seed, uint64(i)+5))
			d, l := formatted(t, p)
			d.Arm(1 + r.IntN(25))
			s := run(r, d, l)
			d.Crash(fates(r, d))
			if len(leaf.Foul(d)) > 0 {
				counts["foul"]++
				continue
			}
			o, list, time, e := Open(d, p, s.from)
			need(t, "Open", e, api.OK)
			if len(list) > len(s.all) || !slices.Equal(list, s.all[:len(list)]) {
				t.Fatalf("reads %s, but %s was added", short(list), short(s.all))
			}
			if len(list) < s.kept || time < s.timeFar {
				t.Fatalf("reads %d changes and time %d, but %d and %d were flushed", len(list), time, s.kept, s.timeFar)
			}
			switch {
			case len(list) == len(s.all) && len(list) > 0:
				counts["all"]++
			case len(list) > s.kept:
				counts["more"]++
			case len(list) == s.kept && s.kept > 0:
				counts["kept"]++
			}
			o.Restart()
			is(t, "restarted", o, o.Next(), p.LogSectors)
			added(t, o, 3, changes(9, 3*o.per)...)
			opens(t, "goes on", d, p, o.Next()-3, changes(9, 3*o.per), 3, o.Next(), p.LogSectors-3)
		}
	}
	if counts["all"] < 50 || counts["more"] < 50 || counts["kept"] < 50 || counts["foul"] > 0 {
		t.Errorf("too little was tried: %v", counts)
	}
}
