package funnel

import "funnel/api"

// settle stands behind every call that changed something.
func (x *Engine) settle() {
	x.merge()
	x.release()
}

// merge lets the merged mark rise, and never fall.
func (x *Engine) merge() {
	mark, active := x.leastMark()
	if !active && len(x.waiting) > 0 {
		mark = x.waiting[len(x.waiting)-1].Ts + 1
	}
	if mark > x.merged {
		x.merged = mark
	}
}

// leastMark tells the least mark of the active sources, and whether there is one.
func (x *Engine) leastMark() (int, bool) {
	mark := api.Least
	active := false
	for _, k := range x.sources {
		if k.in && !k.idle && (!active || k.mark < mark) {
			mark = k.mark
			active = true
		}
	}
	return mark, active
}

func (x *Engine) release() {
	var rest []api.Event
	for _, e := range x.waiting {
		if e.Ts < x.merged {
			x.log = append(x.log, e)
		} else {
			rest = append(rest, e)
		}
	}
	x.waiting = rest
}
