package ground

import (
	"testing"

	"sgraffito/api"
	"sgraffito/flash"
	"sgraffito/plan"
)

// P11.1, P12.1, P13.1: a plan lies on a device of just its sectors and size, as layer 6
// lays it out; a device that is nil counts ahead of a plan that may not be.
func TestLay(t *testing.T) {
	p := plan.Plan{Sectors: 60, Size: 96, Regions: 3, RegionSectors: 2, LogSectors: 4, Depth: 2, Memory: 8}
	want, _ := plan.Fit(p)
	without := p
	without.Regions = 2
	for _, x := range []struct {
		name   string
		d      *flash.Device
		p      plan.Plan
		layout plan.Layout
		e      api.Errno
	}{
		{"right", flash.New(60, 96), p, want, api.OK},
		{"no device", nil, p, plan.Layout{}, api.ErrArg},
		{"neither", nil, plan.Plan{}, plan.Layout{}, api.ErrArg},
		{"no plan", flash.New(60, 96), plan.Plan{}, plan.Layout{}, api.ErrPlan},
		{"no layout", flash.New(60, 96), without, plan.Layout{}, api.ErrPlan},
		{"less sectors", flash.New(59, 96), p, plan.Layout{}, api.ErrPlan},
		{"more sectors", flash.New(61, 96), p, plan.Layout{}, api.ErrPlan},
		{"greater sectors", flash.New(60, 97), p, plan.Layout{}, api.ErrPlan},
	} {
		if got, e := Lay(x.d, x.p); e != x.e || got != x.layout {
			t.Errorf("%s: %+v, error %d, want %+v, %d", x.name, got, e, x.layout, x.e)
		}
	}
}
