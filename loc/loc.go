// Package loc tells locations as bytes, for the layers that write them.
package loc

import (
	"sgraffito/region"
	"sgraffito/wire"
)

// How many bytes each number of a location takes.
const (
	regionBytes = 8
	atBytes     = 2
	sizeBytes   = 2
)

// Bytes is how many bytes a location takes.
const Bytes = regionBytes + atBytes + sizeBytes

// The greatest region, and the greatest place and size, that a location may
// have.
const (
	maxRegion = 1 << 40
	maxPlace  = 1<<16 - 1
)

// May tells whether there may be such a location.
func May(x region.Loc) bool {
	return x.Region >= 0 && x.Region <= maxRegion &&
		x.At >= 0 && x.At <= maxPlace &&
		x.Size >= 0 && x.Size <= maxPlace
}

// Write writes a location.
func Write(w *wire.Writer, x region.Loc) {
	w.Number(uint64(x.Region), regionBytes)
	w.Number(uint64(x.At), atBytes)
	w.Number(uint64(x.Size), sizeBytes)
}

// Read reads one, whether it may be or not.
func Read(r *wire.Reader) region.Loc {
	q := int(r.Number(regionBytes))
	at := int(r.Number(atBytes))
	size := int(r.Number(sizeBytes))
	return region.Loc{Region: q, At: at, Size: size}
}
