package loc

import (
	"bytes"
	"math"
	"testing"

	"sgraffito/region"
	"sgraffito/wire"
)

// lowest tells a number of so many bytes, the lowest first.
func lowest(n uint64, width int) []byte {
	var b []byte
	for range width {
		b = append(b, byte(n))
		n /= 256
	}
	return b
}

// P12.1, P12.2, P14.1: a location's region is from 0 to 2^40, its place and size
// are from 0 to 65535.
func TestMay(t *testing.T) {
	for _, n := range []int{math.MinInt, -1 << 40, -65536, -1, 0, 1, 255, 256, 65534, 65535, 65536, 1 << 20, 1<<40 - 1, 1 << 40, 1<<40 + 1, 1 << 41, math.MaxInt} {
		short := n >= 0 && n <= 65535
		for x, want := range map[region.Loc]bool{
			{Region: n}:                     n >= 0 && n <= 1<<40,
			{Region: n, At: 65535, Size: 1}: n >= 0 && n <= 1<<40,
			{At: n}:                         short,
			{Region: 1, At: n, Size: 65535}: short,
			{Size: n}:                       short,
			{Region: 1 << 40, Size: n}:      short,
			{Region: n, At: n, Size: n}:     short,
		} {
			if got := May(x); got != want {
				t.Errorf("May(%v) is %t", x, got)
			}
		}
	}
}

// P12.1, P14.1: a location's bytes are the region in 8, place and size in 2
// each, the lowest first; it is read as it was written, and what stands behind
// it is left.
func TestBytes(t *testing.T) {
	for _, x := range []region.Loc{
		{},
		{Region: 1, At: 2, Size: 3},
		{Region: 0x0102030405, At: 0x0607, Size: 0x0809},
		{Region: 1 << 40, At: 65535, Size: 65535},
		{Region: math.MaxInt, At: 1, Size: 65534},
		{Region: -1, At: 65535},
	} {
		w := wire.NewWriter(100)
		Write(w, x)
		want := append(append(lowest(uint64(x.Region), 8), lowest(uint64(x.At), 2)...), lowest(uint64(x.Size), 2)...)
		if !bytes.Equal(w.Bytes(), want) || len(want) != Bytes {
			t.Errorf("%v: bytes %x, want %x", x, w.Bytes(), want)
		}
		r := wire.NewReader(append(want, 77))
		if got := Read(r); got != x || r.Bad() || len(r.Rest()) != 1 {
			t.Errorf("%v is read as %v", x, got)
		}
	}
}
