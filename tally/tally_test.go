package tally

import (
	"math"
	"math/rand/v2"
	"slices"
	"testing"

	"sgraffito/api"
)

// top is the greatest count.
const top = 1 << 60

// counted tells a tally with these counts.
func counted(t *testing.T, counts ...int) *Tally {
	t.Helper()
	x := New(len(counts))
	if x == nil {
		t.Fatalf("no tally of %d kinds", len(counts))
	}
	for kind, n := range counts {
		adds(t, x, kind, n, api.OK)
	}
	return x
}

// adds holds Add to an error.
func adds(t *testing.T, x *Tally, kind, n int, want api.Errno) {
	t.Helper()
	if e := x.Add(kind, n); e != want {
		t.Fatalf("Add(%d, %d): error %d, want %d", kind, n, e, want)
	}
}

// is holds a tally to its counts.
func is(t *testing.T, name string, x *Tally, want ...int) {
	t.Helper()
	if l := x.All(); !slices.Equal(l, want) {
		t.Fatalf("%s: All: %d, want %d", name, l, want)
	}
	for kind, n := range want {
		if got := x.Get(kind); got != n {
			t.Fatalf("%s: Get(%d): %d, want %d", name, kind, got, n)
		}
	}
	for _, kind := range []int{math.MinInt, -1, len(want), len(want) + 1, 64, 1 << 32, math.MaxInt} {
		if got := x.Get(kind); got != 0 {
			t.Fatalf("%s: Get(%d): %d, want 0", name, kind, got)
		}
	}
}

// since holds Since to what it should tell.
func since(t *testing.T, x *Tally, was []int, want ...int) {
	t.Helper()
	before := slices.Clone(was)
	if l := x.Since(was); !slices.Equal(l, want) {
		t.Fatalf("Since(%d): %d, want %d", was, l, want)
	}
	if !slices.Equal(was, before) {
		t.Fatalf("what was handed in was changed: %d, was %d", was, before)
	}
}

// P16.1: a tally has from 1 to 64 kinds, all of whose counts are 0; else there is
// none.
func TestNew(t *testing.T) {
	for _, kinds := range []int{math.MinInt, -1 << 32, -64, -1, 0, 65, 66, 128, 1 << 16, 1<<32 + 1, math.MaxInt} {
		if New(kinds) != nil {
			t.Errorf("a tally of %d kinds", kinds)
		}
	}
	for kinds := 1; kinds <= 64; kinds++ {
		x := New(kinds)
		is(t, "new", x, make([]int, kinds)...)
		for kind := range kinds {
			adds(t, x, kind, kind+1, api.OK)
		}
		adds(t, x, kinds, 1, api.ErrArg)
		is(t, "last", x, numbers(kinds)...)
	}
}

// numbers tells those from 1 to n.
func numbers(n int) []int {
	var list []int
	for i := range n {
		list = append(list, i+1)
	}
	return list
}

// P16.1: ErrArg of a kind that there is not, and of a number below 0; nothing is
// counted then.
func TestAddWrong(t *testing.T) {
	x := counted(t, 5, 0, 7)
	for _, kind := range []int{math.MinInt, -3, -1, 3, 4, 64, 1 << 32, math.MaxInt} {
		for _, n := range []int{math.MinInt, -1, 0, 1, 5, top, math.MaxInt} {
			adds(t, x, kind, n, api.ErrArg)
		}
	}
	for kind := range 3 {
		for _, n := range []int{math.MinInt, -top, -5, -1} {
			adds(t, x, kind, n, api.ErrArg)
		}
	}
	is(t, "wrong", x, 5, 0, 7)
}

// P16.1: a count is so many more; 0 more is as it was.
func TestAdd(t *testing.T) {
	x := New(4)
	for i := range 1000 {
		adds(t, x, i%3, i, api.OK)
		adds(t, x, 3, 0, api.OK)
	}
	is(t, "added", x, 333*334/2*3, 332*333/2*3+333, 332*333/2*3+2*333, 0)
}

// P16.1: a count is at most 2^60; what would be more is that.
func TestMost(t *testing.T) {
	for _, y := range []struct{ was, n, want int }{
		{0, top - 1, top - 1},
		{0, top, top},
		{0, top + 1, top},
		{0, math.MaxInt, top},
		{1, top - 2, top - 1},
		{1, top - 1, top},
		{1, top, top},
		{1, math.MaxInt, top},
		{top - 1, 0, top - 1},
		{top - 1, 1, top},
		{top - 1, 2, top},
		{top - 1, math.MaxInt, top},
		{top, 0, top},
		{top, 1, top},
		{top, top, top},
		{top, math.MaxInt, top},
		{top / 2, top / 2, top},
		{top/2 + 1, top / 2, top},
	} {
		x := counted(t, 3, y.was, 4)
		adds(t, x, 1, y.n, api.OK)
		is(t, "most", x, 3, y.want, 4)
	}
}

// P16.1: by how much each count is above that of others: 0, if it is not, or has
// none to be held against that is a count.
func TestSince(t *testing.T) {
	x := counted(t, 5, 0, 7, top)
	since(t, x, nil, 5, 0, 7, top)
	since(t, x, []int{}, 5, 0, 7, top)
	since(t, x, []int{4}, 1, 0, 7, top)
	since(t, x, []int{5, 0, 7, top}, 0, 0, 0, 0)
	since(t, x, []int{6, 1, 8, top + 1}, 0, 0, 0, 0)
	since(t, x, []int{1, 0, 2, 3}, 4, 0, 5, top-3)
	since(t, x, []int{1, 0, 2, 3, 9, 9}, 4, 0, 5, top-3)
	since(t, x, []int{-1, -9, -7, -top}, 5, 0, 7, top)
	since(t, x, []int{math.MinInt, math.MinInt, math.MinInt, math.MinInt}, 5, 0, 7, top)
	since(t, x, []int{math.MaxInt, math.MaxInt, math.MaxInt, math.MaxInt}, 0, 0, 0, 0)
	since(t, x, []int{0, 0, 0, top - 1}, 5, 0, 7, 1)
	is(t, "still", x, 5, 0, 7, top)
	was := x.All()
	adds(t, x, 1, 12, api.OK)
	adds(t, x, 2, 1, api.OK)
	adds(t, x, 3, 1, api.OK)
	since(t, x, was, 0, 12, 1, 0)
}

// P16.1: behind Reset all counts are 0, and it is counted on.
func TestReset(t *testing.T) {
	for kinds := 1; kinds <= 64; kinds++ {
		x := counted(t, numbers(kinds)...)
		x.Reset()
		is(t, "reset", x, make([]int, kinds)...)
		since(t, x, []int{1}, make([]int, kinds)...)
		adds(t, x, kinds-1, top, api.OK)
		x.Reset()
		adds(t, x, kinds-1, 2, api.OK)
		is(t, "on", x, append(make([]int, kinds-1), 2)...)
	}
}

// P16.1: of nil ErrArg, 0, none.
func TestNil(t *testing.T) {
	var x *Tally
	for _, kind := range []int{-1, 0, 1, 64} {
		adds(t, x, kind, 1, api.ErrArg)
		adds(t, x, kind, 0, api.ErrArg)
	}
	x.Reset()
	is(t, "nil", x)
	since(t, x, nil)
	since(t, x, []int{1, -2, 3})
}

// P16.1: what is handed out is new memory, what is handed in is not kept, and no
// tally has to do with another one.
func TestMemory(t *testing.T) {
	x, y := counted(t, 1, 2, 3), counted(t, 1, 2, 3)
	was := append(make([]int, 0, 5), 1, 1)
	for _, list := range [][]int{x.All(), x.Since(nil), x.Since(was)} {
		clear(list)
		_ = append(list[:1], 9, 9)
		is(t, "handed out", x, 1, 2, 3)
	}
	if !slices.Equal(was[:5], []int{1, 1, 0, 0, 0}) {
		t.Errorf("what was handed in was changed: %d", was[:5])
	}
	all := x.All()
	adds(t, x, 0, 5, api.OK)
	x.Reset()
	if !slices.Equal(all, []int{1, 2, 3}) {
		t.Errorf("what was handed out was changed: %d", all)
	}
	is(t, "another one", y, 1, 2, 3)
}

// P16.1: the document's example.
func TestExample(t *testing.T) {
	x := New(1)
	adds(t, x, 0, 2, api.OK)
	adds(t, x, 0, 3, api.OK)
	is(t, "example", x, 5)
	since(t, x, []int{4}, 1)
}

// P16.2: in whatever order things are counted, the counts are the same, also where
// they come to what is most.
func TestOrder(t *testing.T) {
	type thing struct{ kind, n int }
	for seed := range uint64(200) {
		random := rand.New(rand.NewPCG(seed, 16))
		kinds := 1 + random.IntN(64)
		var things []thing
		sums := make([]float64, kinds)
		for range random.IntN(200) {
			x := thing{random.IntN(kinds), random.IntN(1 << (1 + random.IntN(61)))}
			things = append(things, x)
			sums[x.kind] += float64(x.n)
		}
		var first []int
		for round := range 4 {
			x := New(kinds)
			for _, y := range things {
				adds(t, x, y.kind, y.n, api.OK)
			}
			if round == 0 {
				first = x.All()
			}
			is(t, "another order", x, first...)
			random.Shuffle(len(things), func(i, j int) { things[i], things[j] = things[j], things[i] })
		}
		for kind, sum := range sums {
			want := min(sum, float64(top))
			if got := float64(first[kind]); math.Abs(got-want) > want/1e9 {
				t.Errorf("kind %d: %g, want %g", kind, got, want)
			}
		}
	}
}
