// Package ground tells how a plan lies on a device, for the layers that stand on both.
package ground

import (
	"sgraffito/api"
	"sgraffito/flash"
	"sgraffito/plan"
)

// Lay tells a plan's layout on a device: ErrArg, if the device is nil; ErrPlan,
// if the plan has no layout, or another number of sectors or size than it.
func Lay(d *flash.Device, p plan.Plan) (plan.Layout, api.Errno) {
	if d == nil {
		return plan.Layout{}, api.ErrArg
	}
	if p.Sectors != d.Sectors() || p.Size != d.Size() {
		return plan.Layout{}, api.ErrPlan
	}
	return plan.Fit(p)
}
