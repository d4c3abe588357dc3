// Package crc is layer 1: a check of 32 bits (CRC-32C). See shared/doc/01-crc.md.
package crc

import "iter"

// polynomial is what is exclusive-or'd in for each bit of 1 that falls out.
const polynomial = 0x82F63B78

// Table tells, for each byte, what becomes of it alone in 8 places.
//
// The check is linear: a byte's row is those of its bits, exclusive-or'd. So
// only the 8 bytes of one bit go down place by place, and Sum, which makes its
// table anew each time, stays cheap for a sector.
func Table() [256]uint32 {
	var table [256]uint32
	row := uint32(1)
	for place := range 8 {
		row = down(row)
		bit := 128 >> place
		for i := 0; i < len(table); i += 2 * bit {
			table[i+bit] = table[i] ^ row
		}
	}
	return table
}

// Sum tells the check of bytes.
func Sum(b []byte) uint32 { return add(0, b) }

// Add tells the check of bytes whose check is sum, and of b behind them.
func Add(sum uint32, b []byte) uint32 { return add(sum, b) }

// Pieces tells the check of all pieces, one behind the other.
func Pieces(pieces [][]byte) uint32 { return add(0, pieces...) }

// down lets a number go one place down.
func down(n uint32) uint32 {
	if n&1 == 1 {
		return n>>1 ^ polynomial
	}
	return n >> 1
}

// add goes on from a check through pieces. Its bits are turned back first,
// because the last step of a check turned them; 0, the check of nothing, gives
// the ones with which a check begins.
func add(sum uint32, pieces ...[]byte) uint32 {
	table := Table()
	sum = ^sum
	for b := range bytesOf(pieces) {
		sum = sum>>8 ^ table[byte(sum)^b]
	}
	return ^sum
}

// bytesOf goes through the bytes of pieces, one behind the other.
func bytesOf(pieces [][]byte) iter.Seq[byte] {
	return func(yield func(byte) bool) {
		for _, piece := range pieces {
			for _, b := range piece {
				if !yield(b) {
					return
				}
			}
		}
	}
}
