// Package mix is layer 2: keys as numbers of 64 bits. See shared/doc/02-mix.md.
package mix

import "iter"

// What numbers are multiplied by while they are scrambled, and what takes each
// of these products back: the product of a pair is 1 modulo 2^64.
const (
	firstFactor  = 0xBF58476D1CE4E5B9
	secondFactor = 0x94D049BB133111EB
	firstBack    = 0x96DE1B173F119089
	secondBack   = 0x319642B2D24D8EC3
)

// A key's number begins with hashStart, and goes on by hashFactor.
const (
	hashStart  = 0xCBF29CE484222325
	hashFactor = 0x100000001B3
)

// How many bits a prefix, and a slot's number, may have.
const (
	maxPrefix = 30
	maxSlot   = 20
)

// Scramble tells x scrambled.
func Scramble(x uint64) uint64 {
	x = (x ^ x>>30) * firstFactor
	x = (x ^ x>>27) * secondFactor
	return x ^ x>>31
}

// Unscramble tells the number that becomes x.
func Unscramble(x uint64) uint64 {
	x = unfold(x, 31) * secondBack
	x = unfold(x, 27) * firstBack
	return unfold(x, 30)
}

// unfold takes back that a number was exclusive-or'd with itself so many places
// down. Each round leaves it exclusive-or'd with itself twice as many places
// down; from 64 on that is 0, and the number is what it was.
func unfold(x uint64, places int) uint64 {
	for ; places < 64; places *= 2 {
		x ^= x >> places
	}
	return x
}

// Hash tells a key's number with a seed.
func Hash(seed uint64, key []byte) uint64 {
	n := seed ^ hashStart
	fold := func(b byte) {
		n = (n ^ uint64(b)) * hashFactor
	}
	for _, b := range key {
		fold(b)
	}
	return Scramble(n + uint64(len(key)))
}

// Prefix tells the highest so many bits of h; 0, if bits is not from 1 to 30.
func Prefix(h uint64, bits int) int {
	if bits < 1 || bits > maxPrefix {
		return 0
	}
	return int(h >> (64 - bits))
}

// Slots tells the numbers of depth bits, from the least on, whose highest bits
// are prefix; none, if there can be none such.
func Slots(prefix, bits, depth int) []int {
	if bits < 0 || bits > depth || depth > maxSlot || prefix < 0 || prefix >= 1<<bits {
		return nil
	}
	free := depth - bits
	list := make([]int, 0, 1<<free)
	for slot := range behind(prefix, free) {
		list = append(list, slot)
	}
	return list
}

// behind goes through the numbers that are prefix with so many free bits
// behind it.
func behind(prefix, free int) iter.Seq[int] {
	return func(yield func(int) bool) {
		for rest := range 1 << free {
			if !yield(prefix<<free | rest) {
				return
			}
		}
	}
}
