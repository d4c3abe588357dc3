package scrub

import (
	"cmp"
	"slices"

	"sgraffito/api"
	"sgraffito/audit"
	"sgraffito/cache"
	"sgraffito/dump"
	"sgraffito/flash"
	"sgraffito/mix"
	"sgraffito/region"
	"sgraffito/stand"
)

// Heal formats a device anew, with what can be read.
func Heal(d *flash.Device) (int, api.Errno) {
	s, e := stand.On(d)
	if e != api.OK {
		return 0, e
	}
	l, e := dump.Take(d)
	if e != api.OK {
		return 0, e
	}
	_, given, e := renew(d, s.Report, rowsOf(s, l))
	return given, e
}

// rowsOf tells in which rows a dump's items are given: in one, as the dump has them, if
// the regions have room for that.
func rowsOf(s stand.Stand, l []dump.Item) [][]dump.Item {
	rows := [][]dump.Item{l}
	if !haveRoom(s.Report, rows) {
		rows = asTheyStand(s, l)
	}
	return rows
}

// haveRoom tells whether regions have room for rows of items, none of which is written
// over: it is tried on a device that is nobody's.
func haveRoom(r audit.Report, rows [][]dump.Item) bool {
	p := r.Head.Plan
	c, _, e := renew(flash.New(p.Sectors, p.Size), r, rows)
	return e == api.OK && c.Stats().Oldest == 1
}

// asTheyStand parts items into rows, in the order in which they stand. For these regions
// always have room: each item comes to stand no further on than it does. That holds
// behind a checkpoint, too, which fills a sector, if there is one just where a sector
// ends between two items. There was one at such a place each time the log was full: so
// in no row there are more items than go into a log.
func asTheyStand(s stand.Stand, l []dump.Item) [][]dump.Item {
	p := s.Report.Head.Plan
	at := func(x dump.Item) region.Loc { return s.Locations[mix.Hash(p.Seed, x.Key)] }
	order := func(x, y dump.Item) int { return compare(at(x), at(y)) }
	var rows [][]dump.Item
	ahead := region.Loc{}
	for _, x := range slices.SortedFunc(slices.Values(l), order) {
		if isParted(ahead, at(x), room(p)) {
			rows = append(rows, nil)
		}
		last := len(rows) - 1
		rows[last] = append(rows[last], x)
		ahead = at(x)
	}
	return rows
}

// compare tells which of two locations comes first.
func compare(x, y region.Loc) int {
	return cmp.Or(cmp.Compare(x.Region, y.Region), cmp.Compare(x.At, y.At))
}

// isParted tells whether a sector of so many bytes ends behind x and ahead of y.
func isParted(x, y region.Loc, room int) bool {
	return x.Region != y.Region || (x.At+x.Size+room-1)/room <= y.At/room
}

// renew formats a device anew, by a report's plan and time, and gives it rows of items,
// with a checkpoint behind each; it tells the cache, and how many items were given.
func renew(d *flash.Device, r audit.Report, rows [][]dump.Item) (*cache.Cache, int, api.Errno) {
	c, e := cache.Format(d, r.Head.Plan)
	if e != api.OK {
		return nil, 0, e
	}
	if e := c.Tick(r.Time); e != api.OK {
		return nil, 0, e
	}
	all := 0
	for _, l := range rows {
		given, e := dump.Give(c, l)
		if e == api.OK {
			e = c.Checkpoint()
		}
		if e != api.OK {
			return nil, 0, e
		}
		all += given
	}
	return c, all, api.OK
}
