// Package reopen opens what stands behind a head, for the layers that begin with one.
package reopen

import (
	"sgraffito/api"
	"sgraffito/delta"
	"sgraffito/flash"
	"sgraffito/index"
	"sgraffito/region"
	"sgraffito/store"
	"sgraffito/super"
)

// Index opens a head's index, in a store of its own.
func Index(d *flash.Device, h super.Head) (*store.Store, *index.Index, api.Errno) {
	s, e := store.Open(d, h.Plan, h.Gen)
	if e != api.OK {
		return nil, nil, e
	}
	x, e := index.Open(s, h.Depth, h.Root)
	if e != api.OK {
		return nil, nil, e
	}
	return s, x, api.OK
}

// Regions opens the regions behind a head, and behind the changes that the log reads
// from its number on. A region of which only a change tells was begun, too: a sector of
// it must not be written twice.
func Regions(d *flash.Device, h super.Head, list []delta.Change) (*region.Log, api.Errno) {
	last := h.Region
	for _, x := range list {
		last = max(last, x.Loc.Region)
	}
	return region.Open(d, h.Plan, last)
}
