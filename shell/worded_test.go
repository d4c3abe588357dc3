package shell

import (
	"math"
	"regexp"
	"strconv"
	"strings"

	"sgraffito/api"
	"sgraffito/audit"
	"sgraffito/cache"
	"sgraffito/flash"
	"sgraffito/plan"
	"sgraffito/region"
)

// small is the plan of a new shell.
var small = plan.Plan{Sectors: 140, Size: 96, Regions: 5, RegionSectors: 4, LogSectors: 5, Depth: 3, Memory: 8, Seed: 7}

// number is what a number looks like, and word any word.
const (
	number = `-?[0-9]{1,9}`
	word   = `[^ ]+`
)

// The lines that there are, their words with one blank between.
var (
	split    = regexp.MustCompile("[^ \t\r]+")
	patterns = map[string]*regexp.Regexp{
		"plan":       regexp.MustCompile(`^plan( ` + number + `){8}$`),
		"get":        regexp.MustCompile(`^get ` + word + `$`),
		"set":        regexp.MustCompile(`^set ` + word + ` ` + word + `( ` + number + `)?$`),
		"delete":     regexp.MustCompile(`^delete ` + word + `$`),
		"flush":      regexp.MustCompile(`^flush$`),
		"checkpoint": regexp.MustCompile(`^checkpoint$`),
		"tick":       regexp.MustCompile(`^tick ` + number + `$`),
		"arm":        regexp.MustCompile(`^arm ` + number + `$`),
		"rot":        regexp.MustCompile(`^rot( ` + number + `){3}$`),
		"crash":      regexp.MustCompile(`^crash( ` + number + `){0,100}$`),
		"stats":      regexp.MustCompile(`^stats$`),
		"audit":      regexp.MustCompile(`^audit$`),
		"torn":       regexp.MustCompile(`^torn$`),
	}
)

// hand is a device and a cache that are driven by hand, as the chapter words it.
type hand struct {
	d *flash.Device
	c *cache.Cache
}

// newHand tells one of that plan, or nil.
func newHand(p plan.Plan) *hand {
	if _, e := plan.Fit(p); e != api.OK {
		return nil
	}
	d := flash.New(p.Sectors, p.Size)
	c, e := cache.Format(d, p)
	if e != api.OK {
		return nil
	}
	return &hand{d, c}
}

// line tells what a line is to tell.
func (h *hand) line(line string) string {
	if strings.Contains(line, "\n") {
		return "error 16\n"
	}
	l := split.FindAllString(line, -1)
	if len(l) == 0 || l[0][0] == '#' {
		return ""
	}
	p, is := patterns[l[0]]
	if !is || !p.MatchString(strings.Join(l, " ")) {
		return "error 17\n"
	}
	told, e := h.do(l[0], l[1:])
	if e != api.OK {
		return "error " + strconv.Itoa(int(e)) + "\n"
	}
	return told + "\n"
}

// do does a line that is one.
func (h *hand) do(name string, l []string) (string, api.Errno) {
	for _, w := range l {
		if len(w) > 65535 && (name == "get" || name == "set" || name == "delete") {
			return "", api.ErrOp
		}
	}
	switch name {
	case "plan":
		return h.plan(nums(l))
	case "get":
		v, is, e := h.c.Get([]byte(l[0]))
		if is {
			return "value " + string(v), e
		}
		return "miss", e
	case "set":
		return "ok", h.c.Set([]byte(l[0]), []byte(l[1]), append(nums(l[2:]), 0)[0])
	case "delete":
		return "ok", h.c.Delete([]byte(l[0]))
	case "flush":
		return "ok", h.c.Flush()
	case "checkpoint":
		return "ok", h.c.Checkpoint()
	case "tick":
		return "ok", h.c.Tick(nums(l)[0])
	case "arm":
		h.d.Arm(nums(l)[0])
		return "ok", api.OK
	case "rot":
		n := nums(l)
		return "ok", h.d.Rot(n[0], n[1], byte((n[2]%256+256)%256))
	case "crash":
		return "ok", h.crash(nums(l))
	case "stats":
		x := h.c.Stats()
		return spaced([]int{x.Time, x.Gen, x.Depth, x.Where, x.Oldest, x.Left, x.Held, x.Lost, x.Splits}), api.OK
	case "audit":
		return h.audit()
	}
	return spaced(audit.Torn(h.d)), api.OK
}

// plan takes another device and cache, if that is a plan.
func (h *hand) plan(n []int) (string, api.Errno) {
	seed := uint64(n[7])
	if n[7] < 0 {
		seed = math.MaxUint64 - uint64(-n[7]) + 1
	}
	x := newHand(plan.Plan{Sectors: n[0], Size: n[1], Regions: n[2], RegionSectors: n[3], LogSectors: n[4], Depth: n[5], Memory: n[6], Seed: seed})
	if x == nil {
		return "", api.ErrPlan
	}
	*h = *x
	return "ok", api.OK
}

// crash lets the device crash, and opens a cache on it, if that is possible.
func (h *hand) crash(fates []int) api.Errno {
	h.d.Crash(fates)
	c, e := cache.Open(h.d)
	h.c = c
	if e != api.OK {
		h.c = nil
	}
	return e
}

// audit counts what a report has.
func (h *hand) audit() (string, api.Errno) {
	r, e := audit.Look(h.d)
	if e != api.OK {
		return "", e
	}
	locs := map[region.Loc]bool{}
	for _, x := range r.Slots {
		for _, y := range x.Bucket.Entries {
			locs[y.Loc] = true
		}
	}
	records := 0
	for _, x := range r.Regions {
		records += len(x.Records)
	}
	return "depth " + strconv.Itoa(r.Head.Depth) + " entries " + strconv.Itoa(len(locs)) + " changes " + strconv.Itoa(len(r.Changes)) +
		" regions " + strconv.Itoa(len(r.Regions)) + " records " + strconv.Itoa(records), api.OK
}

// nums reads words that are numbers.
func nums(l []string) []int {
	var list []int
	for _, w := range l {
		n, e := strconv.ParseInt(w, 10, 64)
		if e != nil {
			panic(e)
		}
		list = append(list, int(n))
	}
	return list
}

// spaced tells numbers with a blank between.
func spaced(l []int) string {
	s := ""
	for n, x := range l {
		if n > 0 {
			s += " "
		}
		s += strconv.Itoa(x)
	}
	return s
}
