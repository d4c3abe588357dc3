package plan

import (
	"bytes"
	"math"
	"slices"
	"testing"

	"sgraffito/api"
)

// example is the document's.
var example = Plan{300, 96, 3, 2, 4, 3, 8, 0}

// worded tells the layout of a plan, as the document words it; false without.
func worded(p Plan) (Layout, bool) {
	in := func(x, least, most int) bool { return least <= x && x <= most }
	if !in(p.Size, 96, 512) || !in(p.Sectors, 1, 16384) || !in(p.Regions, 3, 64) || !in(p.RegionSectors, 1, 32) ||
		!in(p.LogSectors, 4, 256) || !in(p.Depth, 0, 8) || !in(p.Memory, 8, 256) {
		return Layout{}, false
	}
	var x Layout
	room := p.Size - 19
	for (x.Per+1)*12 <= room {
		x.Per++
	}
	for (x.Slots+1)*20 <= room-10 {
		x.Slots++
	}
	slots := 1
	for range p.Depth {
		slots *= 2
	}
	if slots > x.Per*x.Per {
		return Layout{}, false
	}
	middle := 0
	for middle*x.Per < slots {
		middle++
	}
	x.Tree = 1 + middle + slots
	at := 2
	x.Log = at
	at += p.LogSectors
	x.Region = at
	for range p.Regions {
		at += p.RegionSectors
	}
	x.Page = at
	for ; at < p.Sectors; at++ {
		x.Pages++
	}
	for range p.RegionSectors {
		x.RegionRoom += room
	}
	if x.Pages < x.Tree+x.Tree+x.Tree+4 {
		return Layout{}, false
	}
	return x, true
}

// fits holds a plan to the layout that the document words, and tells whether
// it has one.
func fits(t *testing.T, p Plan) bool {
	t.Helper()
	want, ok := worded(p)
	wantErr := api.OK
	if !ok {
		wantErr = api.ErrPlan
	}
	if got, e := Fit(p); got != want || e != wantErr {
		t.Fatalf("%+v: %+v, error %d, want %+v, %d", p, got, e, want, wantErr)
	}
	return ok
}

// P6.1: the document's example.
func TestExample(t *testing.T) {
	x, e := Fit(example)
	if want := (Layout{2, 6, 12, 288, 6, 3, 11, 154}); e != api.OK || x != want {
		t.Errorf("%+v, error %d, want %+v", x, e, want)
	}
}

// edges are, of each number of a plan, what it may be at least and at most.
var edges = []struct {
	name        string
	of          func(p *Plan) *int
	least, most int
}{
	{"Size", func(p *Plan) *int { return &p.Size }, 96, 512},
	{"Sectors", func(p *Plan) *int { return &p.Sectors }, 1, 16384},
	{"Regions", func(p *Plan) *int { return &p.Regions }, 3, 64},
	{"RegionSectors", func(p *Plan) *int { return &p.RegionSectors }, 1, 32},
	{"LogSectors", func(p *Plan) *int { return &p.LogSectors }, 4, 256},
	{"Depth", func(p *Plan) *int { return &p.Depth }, 0, 8},
	{"Memory", func(p *Plan) *int { return &p.Memory }, 8, 256},
}

// P6.1: each number alone, at its edges and beyond them, in a plan that has
// room enough for all.
func TestEdges(t *testing.T) {
	roomy := Plan{16384, 512, 10, 10, 10, 4, 20, 5}
	for _, x := range edges {
		for _, n := range []int{x.least, x.least + 1, (x.least + x.most) / 2, x.most - 1, x.most} {
			p := roomy
			*x.of(&p) = n
			if ok := fits(t, p); !ok && x.name != "Sectors" {
				t.Errorf("%s %d may not be", x.name, n)
			}
		}
		for _, n := range []int{x.least - 1, x.most + 1, -x.least - 1, -x.most, 1 << 16, 1 << 20, 1 << 32, 1<<32 + x.least, 1<<63 - 1, math.MinInt, math.MinInt + x.least} {
			p := roomy
			*x.of(&p) = n
			if fits(t, p) {
				t.Errorf("%s %d may be", x.name, n)
			}
		}
	}
}

// P6.1: two and more numbers that may not be: it ends, and has no layout.
func TestManyWrongNumbers(t *testing.T) {
	wrong := []int{math.MinInt, -1, 0, 1 << 31, 1 << 62, math.MaxInt}
	for i, x := range edges {
		for _, y := range edges[i+1:] {
			for _, n := range wrong {
				for _, m := range wrong {
					p := example
					*x.of(&p), *y.of(&p) = n, m
					if fits(t, p) {
						t.Errorf("%s %d, %s %d may be", x.name, n, y.name, m)
					}
				}
			}
		}
	}
	for _, n := range wrong {
		if x, e := Fit(Plan{n, n, n, n, n, n, n, uint64(n)}); x != (Layout{}) || e != api.ErrPlan {
			t.Errorf("all %d: %+v, error %d", n, x, e)
		}
	}
	if x, e := Fit(Plan{}); x != (Layout{}) || e != api.ErrPlan {
		t.Errorf("the empty plan: %+v, error %d", x, e)
	}
}

// P6.1: of each depth the least size of which there are references enough, with
// as many sectors as may be.
func TestLeastSizeOfEachDepth(t *testing.T) {
	// 2^depth references need a row of the least number whose square they are at
	// most, 12 bytes each, and 19 bytes around them.
	for depth, least := range []int{96, 96, 96, 96, 96, 96, 8*12 + 19, 12*12 + 19, 16*12 + 19} {
		for size := 96; size <= 512; size++ {
			p := Plan{16384, size, 3, 1, 4, depth, 8, 0}
			if ok := fits(t, p); ok != (size >= least) {
				t.Errorf("depth %d of size %d: %v", depth, size, ok)
			}
		}
	}
}

// P6.1: of each depth the least number of sectors with pages enough.
func TestLeastSectorsOfEachDepth(t *testing.T) {
	for depth := range 9 {
		for _, size := range []int{96, 115, 163, 211, 512} {
			p := Plan{16384, size, 3, 2, 4, depth, 8, 0}
			x, e := Fit(p)
			if e != api.OK {
				continue
			}
			least := x.Page + 3*x.Tree + 4
			for sectors := 1; sectors <= least+20; sectors++ {
				p.Sectors = sectors
				if ok := fits(t, p); ok != (sectors >= least) {
					t.Errorf("depth %d of size %d with %d sectors: %v", depth, size, sectors, ok)
				}
			}
		}
	}
	p := example
	p.Sectors = 49
	if _, e := Fit(p); e != api.OK {
		t.Errorf("the example with 49 sectors: error %d", e)
	}
	p.Sectors = 48
	if _, e := Fit(p); e != api.ErrPlan {
		t.Errorf("the example with 48 sectors: error %d", e)
	}
}

// P6.1: log and regions may take more sectors than there are.
func TestNoRoomAtAll(t *testing.T) {
	for _, p := range []Plan{
		{1, 96, 3, 1, 4, 0, 8, 0}, {9, 96, 3, 1, 4, 0, 8, 0}, {300, 96, 64, 32, 256, 0, 8, 0}, {2306, 96, 64, 32, 256, 0, 8, 0},
	} {
		if fits(t, p) {
			t.Errorf("%+v may be", p)
		}
	}
	if !fits(t, Plan{2306 + 13, 96, 64, 32, 256, 0, 256, 0}) {
		t.Error("the greatest log and regions have no layout")
	}
}

// plans tells many plans, most of which have a layout.
func plans() []Plan {
	var list []Plan
	n := uint64(1)
	next := func(least, most int) int {
		n = n*6364136223846793005 + 1442695040888963407
		return least + int(n>>33)%(most-least+1)
	}
	for range 20000 {
		p := Plan{
			Sectors: next(1, 16384), Size: next(94, 514),
			Regions: next(2, 65), RegionSectors: next(0, 33), LogSectors: next(3, 257),
			Depth: next(-1, 9), Memory: next(7, 257), Seed: n,
		}
		list = append(list, p)
	}
	return list
}

// P6.1: many plans have the layout that the document words. P6.3: its parts do
// not overlap, and fill the device.
func TestManyPlans(t *testing.T) {
	right := 0
	for _, p := range plans() {
		if !fits(t, p) {
			continue
		}
		right++
		x, _ := Fit(p)
		if right%20 == 1 {
			fills(t, p, x)
		}
	}
	if right < 5000 {
		t.Errorf("only %d plans have a layout", right)
	}
}

// fills holds a layout to giving each sector to just one part.
func fills(t *testing.T, p Plan, x Layout) {
	t.Helper()
	given := make([]int, p.Sectors)
	give := func(from, count int) {
		for at := from; at < from+count; at++ {
			if at < 0 || at >= p.Sectors {
				t.Fatalf("%+v: the sector %d is given", p, at)
			}
			given[at]++
		}
	}
	give(0, 2)
	give(x.Log, p.LogSectors)
	for region := range p.Regions {
		give(x.Region+region*p.RegionSectors, p.RegionSectors)
	}
	give(x.Page, x.Pages)
	for at, times := range given {
		if times != 1 {
			t.Fatalf("%+v: the sector %d is given %d times", p, at, times)
		}
	}
}

// P6.3: so do those of plans at the edges.
func TestLayoutFillsTheDevice(t *testing.T) {
	for _, p := range []Plan{
		example, {49, 96, 3, 2, 4, 3, 8, 0}, {22, 96, 3, 1, 4, 0, 8, 0}, {2319, 96, 64, 32, 256, 0, 8, 0},
		{16384, 512, 64, 32, 256, 8, 256, 1}, {16384, 512, 3, 1, 4, 8, 8, math.MaxUint64},
	} {
		x, e := Fit(p)
		if e != api.OK {
			t.Fatalf("%+v: error %d", p, e)
		}
		fills(t, p, x)
	}
}

// P6.1: the seed, and how many pages are kept, change nothing of a layout.
func TestWhatALayoutDoesNotHangOn(t *testing.T) {
	want, _ := Fit(example)
	for _, seed := range []uint64{0, 1, 1 << 63, math.MaxUint64} {
		for _, memory := range []int{8, 9, 100, 256} {
			p := example
			p.Seed, p.Memory = seed, memory
			if x, e := Fit(p); x != want || e != api.OK {
				t.Errorf("seed %d, memory %d: %+v, error %d", seed, memory, x, e)
			}
		}
	}
}

// packed tells a plan's bytes, as the document words them.
func packed(p Plan) []byte {
	var b []byte
	put := func(n uint64, width int) {
		for range width {
			b = append(b, byte(n))
			n >>= 8
		}
	}
	put(uint64(p.Sectors), 4)
	put(uint64(p.Size), 4)
	for _, n := range []int{p.Regions, p.RegionSectors, p.LogSectors, p.Depth, p.Memory} {
		put(uint64(n), 2)
	}
	put(p.Seed, 8)
	return b
}

// P6.2: a plan's bytes.
func TestPack(t *testing.T) {
	p := Plan{0x04030201, 0x08070605, 0x0A09, 0x0C0B, 0x0E0D, 0x100F, 0x1211, 0x1A19181716151413}
	want := make([]byte, 26)
	for i := range want {
		want[i] = byte(i + 1)
	}
	if got := Pack(p); !bytes.Equal(got, want) {
		t.Errorf("%x, want %x", got, want)
	}
	want = []byte{44, 1, 0, 0, 96, 0, 0, 0, 3, 0, 2, 0, 4, 0, 3, 0, 8, 0, 0, 0, 0, 0, 0, 0, 0, 0}
	if got := Pack(example); !bytes.Equal(got, want) {
		t.Errorf("the example: %x, want %x", got, want)
	}
	for _, p := range plans()[:2000] {
		if got, want := Pack(p), packed(p); !bytes.Equal(got, want) {
			t.Fatalf("%+v: %x, want %x", p, got, want)
		}
	}
}

// P6.2: numbers of all kinds, modulo what so many bytes hold.
func TestPackModulo(t *testing.T) {
	numbers := []int{-1, -2, -65536, -65537, math.MinInt, math.MaxInt, 65535, 65536, 65537, 1<<32 - 1, 1 << 32, 1<<32 + 300, 1<<40 + 3}
	for _, x := range edges {
		for _, n := range numbers {
			p := example
			p.Seed = math.MaxUint64 - 1
			*x.of(&p) = n
			if got, want := Pack(p), packed(p); len(got) != 26 || !bytes.Equal(got, want) {
				t.Errorf("%s %d: %x, want %x", x.name, n, got, want)
			}
		}
	}
	if got, want := Pack(Plan{}), make([]byte, 26); !bytes.Equal(got, want) {
		t.Errorf("the empty plan: %x", got)
	}
	// What is lost by that is not read again as it was.
	p := example
	p.Sectors += 1 << 32
	p.Regions += 1 << 16
	if q, e := Unpack(Pack(p)); q != example || e != api.OK {
		t.Errorf("modulo: %+v, error %d", q, e)
	}
}

// P6.2: a plan that has a layout is read as it was packed; of another one
// Unpack tells ErrPlan.
func TestUnpack(t *testing.T) {
	list := append(plans(), example, Plan{16384, 512, 64, 32, 256, 8, 256, math.MaxUint64}, Plan{22, 96, 3, 1, 4, 0, 8, 1 << 63})
	for _, p := range list {
		got, e := Unpack(Pack(p))
		want, wantErr := p, api.OK
		if _, ok := worded(p); !ok {
			want, wantErr = Plan{}, api.ErrPlan
		}
		if got != want || e != wantErr {
			t.Fatalf("%+v: %+v, error %d, want %+v, %d", p, got, e, want, wantErr)
		}
	}
}

// P6.2: bytes that are no plan's: of another length, right at their beginning
// or not, and such as have no layout.
func TestUnpackWrong(t *testing.T) {
	right := Pack(example)
	for length := range 100 {
		if length == 26 {
			continue
		}
		b := make([]byte, length)
		if q, e := Unpack(b); q != (Plan{}) || e != api.ErrForm {
			t.Errorf("%d noughts: %+v, error %d", length, q, e)
		}
		copy(b, right)
		if q, e := Unpack(b); q != (Plan{}) || e != api.ErrForm {
			t.Errorf("the example in %d bytes: %+v, error %d", length, q, e)
		}
	}
	if q, e := Unpack(nil); q != (Plan{}) || e != api.ErrForm {
		t.Errorf("nil: %+v, error %d", q, e)
	}
	for _, x := range []byte{0, 1, 127, 128, 255} {
		if q, e := Unpack(bytes.Repeat([]byte{x}, 26)); q != (Plan{}) || e != api.ErrPlan {
			t.Errorf("all %d: %+v, error %d", x, q, e)
		}
	}
	b := bytes.Repeat([]byte{255}, 25)
	if q, e := Unpack(b); q != (Plan{}) || e != api.ErrForm {
		t.Errorf("neither the length nor a layout: %+v, error %d", q, e)
	}
}

// P6.2: each byte of a number counts, the highest, too.
func TestUnpackEachByte(t *testing.T) {
	starts := []struct {
		from, width int
		of          func(p *Plan) *int
	}{
		{0, 4, func(p *Plan) *int { return &p.Sectors }}, {4, 4, func(p *Plan) *int { return &p.Size }},
		{8, 2, func(p *Plan) *int { return &p.Regions }}, {10, 2, func(p *Plan) *int { return &p.RegionSectors }},
		{12, 2, func(p *Plan) *int { return &p.LogSectors }}, {14, 2, func(p *Plan) *int { return &p.Depth }},
		{16, 2, func(p *Plan) *int { return &p.Memory }},
	}
	for _, x := range starts {
		for i := range x.width {
			for more := range 256 {
				b, p := Pack(example), example
				number := x.of(&p)
				*number += (more - int(b[x.from+i])) << (8 * i)
				b[x.from+i] = byte(more)
				want, wantErr := p, api.OK
				if _, ok := worded(p); !ok {
					want, wantErr = Plan{}, api.ErrPlan
				}
				if q, e := Unpack(b); q != want || e != wantErr {
					t.Errorf("%d in the byte %d: %+v, error %d, want %+v, %d", more, x.from+i, q, e, want, wantErr)
				}
			}
		}
	}
	for i := range 8 {
		b := Pack(example)
		b[18+i] = 200
		if q, e := Unpack(b); e != api.OK || q.Seed != 200<<(8*i) {
			t.Errorf("another seed: %+v, error %d", q, e)
		}
	}
}

// R4: what is handed in is not changed, and what is handed out is new.
func TestMemory(t *testing.T) {
	a, b := Pack(example), Pack(example)
	a[0]++
	if b[0] != 44 {
		t.Error("two plans' bytes are the same memory")
	}
	spare := append(make([]byte, 0, 60), b...)[:60]
	copy(spare[26:], "what stands behind the list's end")
	before := slices.Clone(spare)
	if _, e := Unpack(spare[:26]); e != api.OK || !bytes.Equal(spare, before) {
		t.Error("Unpack changes what it was handed")
	}
}
