package super

import (
	"bytes"
	"math"
	"slices"
	"testing"

	"sgraffito/api"
	"sgraffito/flash"
	"sgraffito/leaf"
	"sgraffito/plan"
)

// plans are some that have a layout: the one with which most is tried, and
// others, with the least, the greatest and other numbers.
var plans = []plan.Plan{
	{Sectors: 60, Size: 96, Regions: 3, RegionSectors: 2, LogSectors: 4, Depth: 2, Memory: 8, Seed: 7},
	{Sectors: 30, Size: 96, Regions: 3, RegionSectors: 1, LogSectors: 4, Depth: 0, Memory: 8},
	{Sectors: 16384, Size: 512, Regions: 64, RegionSectors: 32, LogSectors: 256, Depth: 8, Memory: 256, Seed: math.MaxUint64},
	{Sectors: 5000, Size: 301, Regions: 9, RegionSectors: 5, LogSectors: 77, Depth: 5, Memory: 33, Seed: 0x0102030405060708},
}

// bad are some that have none.
var bad = []plan.Plan{
	{},
	{Sectors: 60, Size: 95, Regions: 3, RegionSectors: 2, LogSectors: 4, Depth: 2, Memory: 8},
	{Sectors: 60, Size: 96, Regions: 3, RegionSectors: 2, LogSectors: 4, Depth: 9, Memory: 8},
	{Sectors: 60, Size: 96, Regions: 3, RegionSectors: 2, LogSectors: 4, Depth: 2, Memory: 257},
	{Sectors: 33, Size: 96, Regions: 3, RegionSectors: 2, LogSectors: 4, Depth: 2, Memory: 8},
	{Sectors: -60, Size: 96, Regions: 3, RegionSectors: 2, LogSectors: 4, Depth: 2, Memory: 8},
}

// field is a number of a head, with what it may be at least and at most; where
// it begins in a load, and how many bytes it has there (none of a generation).
type field struct {
	name        string
	of          func(h *Head) *int
	least, most int
	at, width   int
}

// fields are those of a head with a plan of that depth.
func fields(depth int) []field {
	return []field{
		{"generation", func(h *Head) *int { return &h.Gen }, 1, math.MaxInt, 0, 0},
		{"root's page", func(h *Head) *int { return &h.Root.Page }, 0, 1<<31 - 1, 26, 4},
		{"root's stamp", func(h *Head) *int { return &h.Root.Stamp }, 0, math.MaxInt, 30, 8},
		{"depth", func(h *Head) *int { return &h.Depth }, 0, depth, 38, 1},
		{"log", func(h *Head) *int { return &h.Log }, 1, math.MaxInt, 39, 8},
		{"region", func(h *Head) *int { return &h.Region }, 0, math.MaxInt, 47, 8},
		{"time", func(h *Head) *int { return &h.Time }, 0, 1 << 48, 55, 8},
	}
}

// wrong tells numbers that a field may not have.
func (x field) wrong() []int {
	list := []int{math.MinInt, math.MinInt + x.least, -1 << 48, -1 << 31, -2, -1, x.least - 1}
	if x.most < math.MaxInt {
		list = append(list, x.most+1, 2*x.most+2, 1<<49, 1<<62, math.MaxInt)
	}
	return list
}

// right tells numbers that it may have.
func (x field) right() []int {
	list := []int{x.least, x.most}
	for _, n := range []int{0, 1, 2, 3, 255, 256, 0x01020304, 1<<31 - 1, 1 << 31, 1 << 40, 1 << 48, 0x0102030405060708} {
		if n >= x.least && n <= x.most {
			list = append(list, n)
		}
	}
	return list
}

// ordinary tells a head of a generation.
func ordinary(p plan.Plan, gen int) Head {
	return Head{Plan: p, Gen: gen, Root: Ref{4 + gen, 9 * gen}, Depth: gen % (p.Depth + 1), Log: 7 + gen, Region: 3 * gen, Time: 11 * gen}
}

// lowest tells a number of so many bytes, the lowest first.
func lowest(n uint64, width int) []byte {
	var b []byte
	for range width {
		b = append(b, byte(n))
		n /= 256
	}
	return b
}

// worded tells a head's load, as the document words it.
func worded(h Head) []byte {
	var b []byte
	for _, n := range []int{h.Plan.Sectors, h.Plan.Size} {
		b = append(b, lowest(uint64(n), 4)...)
	}
	for _, n := range []int{h.Plan.Regions, h.Plan.RegionSectors, h.Plan.LogSectors, h.Plan.Depth, h.Plan.Memory} {
		b = append(b, lowest(uint64(n), 2)...)
	}
	b = append(b, lowest(h.Plan.Seed, 8)...)
	b = append(b, lowest(uint64(h.Root.Page), 4)...)
	b = append(b, lowest(uint64(h.Root.Stamp), 8)...)
	b = append(b, lowest(uint64(h.Depth), 1)...)
	b = append(b, lowest(uint64(h.Log), 8)...)
	b = append(b, lowest(uint64(h.Region), 8)...)
	return append(b, lowest(uint64(h.Time), 8)...)
}

// need fails the test at once, if an error is another one.
func need(t *testing.T, name string, got, want api.Errno) {
	t.Helper()
	if got != want {
		t.Fatalf("%s: error %d, want %d", name, got, want)
	}
}

// heads holds a device to the heads that are told, and to the newest of them.
func heads(t *testing.T, name string, d *flash.Device, want ...Head) {
	t.Helper()
	if got := Heads(d); !slices.Equal(got, want) {
		t.Fatalf("%s: heads are %+v, want %+v", name, got, want)
	}
	h, e := Load(d)
	switch {
	case len(want) > 0 && (e != api.OK || h != want[0]):
		t.Fatalf("%s: loaded is %+v, error %d, want %+v", name, h, e, want[0])
	case len(want) == 0 && (e == api.OK || h != Head{}):
		t.Fatalf("%s: loaded is %+v, error %d", name, h, e)
	}
}

// device tells a new one of a plan's sectors and size.
func device(p plan.Plan) *flash.Device { return flash.New(p.Sectors, p.Size) }

// unpacked holds a load to being that of a head.
func unpacked(t *testing.T, h Head, b []byte) {
	t.Helper()
	if got, e := Unpack(h.Gen, b); e != api.OK || got != h {
		t.Fatalf("read is %+v, error %d, want %+v", got, e, h)
	}
}

// noHead holds bytes to being no head's load.
func noHead(t *testing.T, name string, gen int, b []byte) {
	t.Helper()
	if h, e := Unpack(gen, b); e != api.ErrForm || h != (Head{}) {
		t.Fatalf("%s: %+v, error %d", name, h, e)
	}
}

// P10.1: a head's load has the bytes that the document words, and is read as
// that head again: of each number alone what it may be.
func TestPackAndUnpack(t *testing.T) {
	for _, p := range plans {
		for _, x := range fields(p.Depth) {
			for _, n := range x.right() {
				h := ordinary(p, 1)
				*x.of(&h) = n
				b, e := Pack(h)
				if e != api.OK || len(b) != 63 || !bytes.Equal(b, worded(h)) {
					t.Fatalf("%s %d: %x, error %d", x.name, n, b, e)
				}
				unpacked(t, h, b)
			}
		}
		for depth := range p.Depth + 1 {
			h := Head{Plan: p, Gen: 1, Depth: depth, Log: 1}
			unpacked(t, h, worded(h))
		}
		h := Head{p, math.MaxInt, Ref{1<<31 - 1, math.MaxInt}, p.Depth, math.MaxInt, math.MaxInt, 1 << 48}
		unpacked(t, h, worded(h))
	}
}

// P10.1: what may not be packed: ErrPlan ahead of ErrArg.
func TestPackWrong(t *testing.T) {
	try := func(name string, h Head, want api.Errno) {
		t.Helper()
		if b, e := Pack(h); e != want || b != nil {
			t.Errorf("%s of %+v: %x, error %d, want %d", name, h, b, e, want)
		}
	}
	for _, p := range plans {
		for _, x := range fields(p.Depth) {
			for _, n := range x.wrong() {
				h := ordinary(p, 1)
				*x.of(&h) = n
				try(x.name, h, api.ErrArg)
				for _, y := range fields(p.Depth) {
					both := h
					*y.of(&both) = y.wrong()[0]
					try(x.name+" and "+y.name, both, api.ErrArg)
				}
			}
		}
		try("nothing but a plan", Head{Plan: p}, api.ErrArg)
	}
	for _, p := range bad {
		try("a plan", ordinary(p, 1), api.ErrPlan)
		try("a plan alone", Head{Plan: p}, api.ErrPlan)
		for _, x := range fields(p.Depth) {
			for _, n := range x.wrong() {
				h := ordinary(p, 1)
				*x.of(&h) = n
				try("a plan, and "+x.name, h, api.ErrPlan)
			}
		}
	}
}

// P10.1: the depth is bounded by the plan's own.
func TestDepthIsThePlans(t *testing.T) {
	for depth := range 9 {
		p := plan.Plan{Sectors: 16384, Size: 512, Regions: 3, RegionSectors: 1, LogSectors: 4, Depth: depth, Memory: 8}
		for n := -2; n <= 300; n++ {
			h := Head{Plan: p, Gen: 3, Depth: n, Log: 1}
			_, e := Pack(h)
			if ok := n >= 0 && n <= depth; (e == api.OK) != ok {
				t.Errorf("depth %d of a plan's %d: error %d", n, depth, e)
			}
			if n < 0 || n > 255 {
				continue
			}
			if got, e := Unpack(3, worded(h)); (e == api.OK) != (n <= depth) || (e == api.OK && got != h) {
				t.Errorf("depth %d of a plan's %d is read as %+v, error %d", n, depth, got, e)
			}
		}
	}
}

// P10.1: loads of another length, and generations that may not be.
func TestUnpackWrongLengthOrGeneration(t *testing.T) {
	h := ordinary(plans[0], 1)
	b := append(worded(h), make([]byte, 300)...)
	for length := range len(b) {
		if length != 63 {
			noHead(t, "another length", 1, b[:length])
		}
	}
	noHead(t, "nil", 1, nil)
	noHead(t, "all 0", 1, make([]byte, 63))
	noHead(t, "all ones", 1, bytes.Repeat([]byte{255}, 63))
	noHead(t, "long", 1, make([]byte, 1<<20))
	for _, gen := range []int{0, -1, -2, -1 << 32, math.MinInt, math.MinInt + 1} {
		noHead(t, "a generation", gen, worded(h))
		noHead(t, "a generation, and nothing", gen, nil)
	}
	for _, gen := range []int{1, 2, 3, 1 << 32, math.MaxInt} {
		h.Gen = gen
		unpacked(t, h, worded(h))
	}
}

// P10.1: numbers that may not be, each as wide as it stands in a load, up to
// those that are below 0 as an int.
func TestUnpackWrongNumbers(t *testing.T) {
	for _, p := range plans {
		h := ordinary(p, 1)
		for _, x := range fields(p.Depth) {
			for bit := range 8 * x.width {
				for _, n := range []uint64{0, 1 << bit, 1<<bit - 1, 1<<bit + 1, ^uint64(0) - 1<<bit, ^uint64(0)} {
					b := worded(h)
					copy(b[x.at:x.at+x.width], lowest(n, x.width))
					n &= ^uint64(0) >> (64 - 8*x.width)
					want := h
					*x.of(&want) = int(n)
					if n >= uint64(x.least) && n <= uint64(x.most) {
						unpacked(t, want, b)
					} else {
						noHead(t, x.name, 1, b)
					}
				}
			}
		}
	}
}

// P10.1: plans that have no layout: ErrForm, too.
func TestUnpackWrongPlans(t *testing.T) {
	for _, p := range bad {
		noHead(t, "a plan", 1, worded(ordinary(p, 1)))
		noHead(t, "a plan alone", 1, worded(Head{Plan: p}))
	}
	right := worded(ordinary(plans[0], 2))
	for i := range 26 {
		for _, mask := range []byte{1, 2, 16, 128, 255} {
			b := slices.Clone(right)
			b[i] ^= mask
			if _, e := plan.Unpack(b[:26]); e != api.OK {
				noHead(t, "a changed plan", 2, b)
			}
		}
	}
}

// P10.1: just what Pack makes is read.
func TestUnpackChangedBytes(t *testing.T) {
	right := worded(ordinary(plans[3], 2))
	for i := range right {
		for n := range 256 {
			b := slices.Clone(right)
			b[i] = byte(n)
			h, e := Unpack(2, b)
			if e == api.ErrForm && h == (Head{}) {
				continue
			}
			if again, pe := Pack(h); e != api.OK || pe != api.OK || h.Gen != 2 || !bytes.Equal(again, b) {
				t.Fatalf("byte %d is %d: %+v, error %d", i, n, h, e)
			}
		}
	}
}

// P10.2: the document's example.
func TestExample(t *testing.T) {
	d := device(plans[0])
	first, second := ordinary(plans[0], 1), ordinary(plans[0], 2)
	need(t, "save", Save(d, first), api.OK)
	if len(d.Past(0)) != 1 || len(d.Past(1)) != 2 {
		t.Error("generation 1 does not write sector 1 alone")
	}
	heads(t, "generation 1", d, first)
	need(t, "save", Save(d, second), api.OK)
	if len(d.Past(0)) != 2 || len(d.Past(1)) != 2 {
		t.Error("generation 2 does not write sector 0 alone")
	}
	heads(t, "generation 2", d, second, first)
}

// P10.2: a head is saved in its turn's sector alone, loose, as the leaf that the
// document words, and is loaded.
func TestSave(t *testing.T) {
	for _, p := range plans {
		for _, gen := range []int{1, 2, 3, 100, 101, 1 << 40, math.MaxInt - 1, math.MaxInt} {
			d := device(p)
			h := Head{p, gen, Ref{5, 6}, p.Depth, 7, 8, 9}
			need(t, "save", Save(d, h), api.OK)
			want, e := leaf.Build(p.Size, leaf.Leaf{Kind: 1, Place: gen % 2, Stamp: gen, Load: worded(h)})
			need(t, "build", e, api.OK)
			if b, e := d.Read(gen % 2); e != api.OK || !bytes.Equal(b, want) {
				t.Fatalf("generation %d: %x, error %d", gen, b, e)
			}
			if d.Loose() != 1 || d.Acts() != 1 || len(d.Past(1-gen%2)) != 1 || len(d.Past(2)) != 1 {
				t.Fatalf("generation %d: %d loose, %d acts", gen, d.Loose(), d.Acts())
			}
			heads(t, "saved", d, h)
			need(t, "sync", d.Sync(), api.OK)
			heads(t, "fast", d, h)
		}
	}
}

// P10.2: the errors of Save, the first of several; nothing is written then.
func TestSaveWrong(t *testing.T) {
	p := plans[0]
	right, wrong, planless := ordinary(p, 1), Head{Plan: p}, ordinary(bad[0], 1)
	for _, h := range []Head{right, wrong, planless, {}} {
		need(t, "save to nil", Save(nil, h), api.ErrArg)
	}
	others := []*flash.Device{flash.New(61, 96), flash.New(59, 96), flash.New(60, 97), flash.New(60, 512), flash.New(48, 120), flash.New(1, 96), flash.New(2, 300)}
	for _, d := range others {
		need(t, "save to another device", Save(d, right), api.ErrPlan)
		need(t, "save of what may not be", Save(d, wrong), api.ErrArg)
		need(t, "save of a plan that may not be", Save(d, planless), api.ErrPlan)
		if d.Acts() != 0 {
			t.Error("what told an error was written")
		}
		heads(t, "another device", d)
	}
	d := device(p)
	for _, x := range fields(p.Depth) {
		for _, n := range x.wrong() {
			h := right
			*x.of(&h) = n
			need(t, "save of "+x.name, Save(d, h), api.ErrArg)
		}
	}
	need(t, "save of a plan that may not be", Save(d, planless), api.ErrPlan)
	need(t, "save of another plan", Save(d, ordinary(plans[1], 1)), api.ErrPlan)
	if d.Acts() != 0 || d.Loose() != 0 {
		t.Error("what told an error was written")
	}
	need(t, "save", Save(d, right), api.OK)
	heads(t, "behind the errors", d, right)
}

// P10.2: a device that goes down, or is down, tells so, behind all else.
func TestSaveWhileDown(t *testing.T) {
	p := plans[0]
	d := device(p)
	first, second := ordinary(p, 1), ordinary(p, 2)
	need(t, "save", Save(d, first), api.OK)
	need(t, "sync", d.Sync(), api.OK)
	d.Arm(1)
	need(t, "save while it goes down", Save(d, second), api.ErrDown)
	need(t, "save while it is down", Save(d, second), api.ErrDown)
	need(t, "save of what may not be", Save(d, Head{Plan: p}), api.ErrArg)
	need(t, "save of a plan that may not be", Save(d, Head{}), api.ErrPlan)
	need(t, "save of another plan", Save(d, ordinary(plans[1], 1)), api.ErrPlan)
	heads(t, "down", d)
	if _, e := Load(d); e != api.ErrDown {
		t.Errorf("load of one that is down: error %d", e)
	}
	if d.Loose() != 1 {
		t.Errorf("%d writes are loose", d.Loose())
	}
	d.Crash([]int{96})
	heads(t, "the write was done", d, second, first)
}

// P10.2: of what there is none, and what Load tells then.
func TestNone(t *testing.T) {
	heads(t, "nil", nil)
	if _, e := Load(nil); e != api.ErrArg {
		t.Errorf("load of nil: error %d", e)
	}
	for _, d := range []*flash.Device{device(plans[0]), flash.New(1, 96), flash.New(2, 512), flash.New(16384, 511)} {
		heads(t, "a new device", d)
		if _, e := Load(d); e != api.ErrLost {
			t.Errorf("load of a new device: error %d", e)
		}
		d.Arm(1)
		need(t, "sync", d.Sync(), api.ErrDown)
		heads(t, "down", d)
		if _, e := Load(d); e != api.ErrDown {
			t.Errorf("load of one that is down: error %d", e)
		}
	}
}

// put writes a leaf to a device.
func put(t *testing.T, d *flash.Device, at int, x leaf.Leaf) {
	t.Helper()
	need(t, "put", leaf.Put(d, at, x), api.OK)
}

// P10.2: leaves that are no head that is right are passed over, and the other
// head is told, wherever it stands.
func TestNotRight(t *testing.T) {
	p := plans[0]
	more, wider, fewer := p, p, p
	more.Sectors = 61
	wider.Size = 97
	fewer.Sectors, fewer.Size = 48, 120 // as many bytes in all
	for gen := 4; gen <= 5; gen++ {
		at := gen % 2
		h := ordinary(p, gen)
		load := worded(h)
		for name, x := range map[string]leaf.Leaf{
			"another kind":         {Kind: 2, Place: at, Stamp: gen, Load: load},
			"a kind of the log":    {Kind: 4, Place: at, Stamp: gen, Load: load},
			"another place":        {Kind: 1, Place: 1 - at, Stamp: gen, Load: load},
			"a place far off":      {Kind: 1, Place: at + 2, Stamp: gen, Load: load},
			"the other's turn":     {Kind: 1, Place: at, Stamp: gen + 1, Load: load},
			"the other's turn ago": {Kind: 1, Place: at, Stamp: gen - 1, Load: load},
			"no load":              {Kind: 1, Place: at, Stamp: gen},
			"a short load":         {Kind: 1, Place: at, Stamp: gen, Load: load[:62]},
			"a long load":          {Kind: 1, Place: at, Stamp: gen, Load: append(slices.Clone(load), 0)},
			"a wrong load":         {Kind: 1, Place: at, Stamp: gen, Load: worded(Head{Plan: p})},
			"no plan":              {Kind: 1, Place: at, Stamp: gen, Load: worded(ordinary(bad[0], gen))},
			"more sectors":         {Kind: 1, Place: at, Stamp: gen, Load: worded(ordinary(more, gen))},
			"wider sectors":        {Kind: 1, Place: at, Stamp: gen, Load: worded(ordinary(wider, gen))},
			"fewer, wider sectors": {Kind: 1, Place: at, Stamp: gen, Load: worded(ordinary(fewer, gen))},
			"generation 0":         {Kind: 1, Place: at, Stamp: 0, Load: load},
		} {
			d := device(p)
			put(t, d, at, x)
			heads(t, name, d)
			if _, e := Load(d); e != api.ErrLost {
				t.Errorf("%s: load tells error %d", name, e)
			}
			for _, other := range []int{gen - 1, gen + 1, 1001 - at} {
				h := ordinary(p, other)
				need(t, "save", Save(d, h), api.OK)
				heads(t, name+" beside a right one", d, h)
			}
			put(t, d, at, leaf.Leaf{Kind: 1, Place: at, Stamp: gen, Load: load})
			heads(t, "all right", d, ordinary(p, 1001-at), h)
		}
	}
}

// P10.2: heads that stand elsewhere than in the sectors 0 and 1 are none.
func TestOtherSectors(t *testing.T) {
	p := plans[0]
	d := device(p)
	for at := 2; at < p.Sectors; at++ {
		put(t, d, at, leaf.Leaf{Kind: 1, Place: at % 2, Stamp: at, Load: worded(ordinary(p, at))})
		put(t, d, at, leaf.Leaf{Kind: 1, Place: at, Stamp: at, Load: worded(ordinary(p, at))})
	}
	heads(t, "elsewhere", d)
}

// P10.2: the newest comes first, whichever sector it stands in, and however far
// the generations are apart.
func TestNewestFirst(t *testing.T) {
	p := plans[3]
	even, odd := []int{2, 4, 100, 1 << 40, math.MaxInt - 1}, []int{1, 3, 99, 101, 1<<40 + 1, math.MaxInt}
	for _, x := range even {
		for _, y := range odd {
			first, second := Head{Plan: p, Gen: max(x, y), Log: 1}, Head{Plan: p, Gen: min(x, y), Log: 2}
			for _, order := range [][]Head{{first, second}, {second, first}} {
				d := device(p)
				for _, h := range order {
					need(t, "save", Save(d, h), api.OK)
				}
				heads(t, "two", d, first, second)
			}
		}
	}
}

// P10.2: of a sector's turn what was saved last is told, a lower generation, too.
func TestSavedAgain(t *testing.T) {
	p := plans[0]
	d := device(p)
	for _, gen := range []int{9, 5, 7, 7, 1} {
		h := ordinary(p, gen)
		need(t, "save", Save(d, h), api.OK)
		heads(t, "saved again", d, h)
	}
}

// P10.3: while a head is written, wherever that is torn, the one of the
// generation ahead is told; the new one as soon as it is whole.
func TestTornHeads(t *testing.T) {
	for _, p := range []plan.Plan{plans[0], plans[3]} {
		d := device(p)
		var last []Head
		for gen := 1; gen <= 6; gen++ {
			h := ordinary(p, gen)
			for fate := range p.Size + 1 {
				for _, armed := range []bool{false, true} {
					torn(t, d.Copy(), h, fate, armed, last)
				}
			}
			need(t, "save", Save(d, h), api.OK)
			need(t, "sync", d.Sync(), api.OK)
			last = append([]Head{h}, last[:min(len(last), 1)]...)
			heads(t, "fast", d, last...)
		}
	}
}

// torn saves a head upon what a device has, of which a crash does just so many
// bytes, and holds it to what there is then. How many of them are enough hangs
// on what stood there: the leaf's last bytes may be the same.
func torn(t *testing.T, d *flash.Device, h Head, fate int, armed bool, last []Head) {
	t.Helper()
	was, _ := d.Read(h.Gen % 2)
	want := api.OK
	if armed {
		d.Arm(1)
		want = api.ErrDown
	}
	need(t, "save", Save(d, h), want)
	past := d.Past(h.Gen % 2)
	d.Crash([]int{fate})
	is, _ := d.Read(h.Gen % 2)
	var ahead []Head
	if len(last) > 0 {
		ahead = last[:1]
	}
	switch {
	case bytes.Equal(is, past[0]):
		heads(t, "all was done", d, append([]Head{h}, ahead...)...)
	case bytes.Equal(is, was):
		heads(t, "nothing was done", d, last...)
	default:
		heads(t, "torn", d, ahead...)
	}
	if fate == 0 && !bytes.Equal(is, was) || fate == 80 && bytes.Equal(is, was) || fate == d.Size() && !bytes.Equal(is, past[0]) {
		t.Errorf("torn at %d it is not what was to be tried", fate)
	}
}

// P10.3: a head that rots, or is written upon, leaves the other one.
func TestRottenHeads(t *testing.T) {
	p := plans[0]
	for gen := 2; gen <= 3; gen++ {
		d := device(p)
		old, young := ordinary(p, gen-1), ordinary(p, gen)
		need(t, "save", Save(d, old), api.OK)
		need(t, "save", Save(d, young), api.OK)
		need(t, "sync", d.Sync(), api.OK)
		for i := range 8 * p.Size {
			need(t, "rot", d.Rot(gen%2, i/8, 1<<(i%8)), api.OK)
			heads(t, "the newest is rotten", d, old)
			need(t, "rot", d.Rot(1-gen%2, i/8, 1<<(i%8)), api.OK)
			heads(t, "both are rotten", d)
			need(t, "rot", d.Rot(gen%2, i/8, 1<<(i%8)), api.OK)
			heads(t, "the older is rotten", d, young)
			need(t, "rot", d.Rot(1-gen%2, i/8, 1<<(i%8)), api.OK)
			heads(t, "none is rotten", d, young, old)
		}
		need(t, "write", d.Write(gen%2, make([]byte, p.Size)), api.OK)
		heads(t, "written upon", d, old)
	}
}

// R4, R5: asking changes nothing, what is handed in is not changed and not
// kept, and what is handed out is new.
func TestMemory(t *testing.T) {
	p := plans[0]
	first, second := ordinary(p, 1), ordinary(p, 2)
	row := append(worded(first), 1, 2, 3)
	before := slices.Clone(row)
	unpacked(t, first, row[:63])
	b, e := Pack(first)
	need(t, "pack", e, api.OK)
	for i := range b[:cap(b)] {
		b[:cap(b)][i] ^= 255
	}
	if c, e := Pack(first); e != api.OK || !bytes.Equal(row, before) || !bytes.Equal(c, worded(first)) {
		t.Error("what was handed in is changed, or what is handed out is another's")
	}
	d := device(p)
	need(t, "save", Save(d, second), api.OK)
	need(t, "save", Save(d, first), api.OK)
	d.Arm(1)
	for range 3 {
		list := Heads(d)
		if !slices.Equal(list, []Head{second, first}) {
			t.Fatalf("heads are %+v", list)
		}
		list[0], list[1] = Head{}, Head{}
		heads(t, "asked again", d, second, first)
	}
	if d.Acts() != 2 || d.Loose() != 2 || d.Down() || len(d.Past(0)) != 2 || len(d.Past(1)) != 2 {
		t.Error("asking changed the device")
	}
	need(t, "still armed", d.Sync(), api.ErrDown)
}
