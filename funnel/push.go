package funnel

import "funnel/api"

// What becomes of an event.
const (
	dropped   = 0
	laidAside = 1
	waits     = 2
	lifted    = 3
)

// checkPush tells the errors of Push but for ErrFull, which hangs on the event's fate.
func (x *Engine) checkPush(s int, e api.Event) api.Errno {
	fault := x.checkIn(s)
	if fault != api.OK {
		return fault
	}
	if !isEvent(e) {
		return api.ErrEvent
	}
	if !isTime(e.Ts) {
		return api.ErrTime
	}
	if e.Seq <= x.sources[s].last {
		return api.ErrSeq
	}
	return api.OK
}

func (x *Engine) isLate(s int, ts int) bool {
	if x.sources[s].idle && ts < x.merged {
		return true
	}
	return ts < x.sources[s].mark
}

func (x *Engine) fate(late bool) int {
	if !late {
		return waits
	}
	switch x.config.Policy {
	case api.Side:
		return laidAside
	case api.Lift:
		return lifted
	}
	return dropped
}

func (x *Engine) isFull(s int, fate int) bool {
	switch fate {
	case dropped:
		return false
	case laidAside:
		return len(x.late) >= api.MaxEvents
	}
	if len(x.waiting)+len(x.log) >= api.MaxEvents {
		return true
	}
	return x.waitingOf(s) >= x.config.Room
}

func (x *Engine) place(e api.Event, fate int) {
	switch fate {
	case laidAside:
		x.late = append(x.late, e)
	case waits:
		x.wait(e)
	case lifted:
		if e.Ts < x.merged {
			e.Ts = x.merged
		}
		x.wait(e)
	}
}

// wait keeps those that wait in their order, so that settling need not sort.
func (x *Engine) wait(e api.Event) {
	x.waiting = append(x.waiting, e)
	i := len(x.waiting) - 1
	for i > 0 && isAhead(e, x.waiting[i-1]) {
		x.waiting[i] = x.waiting[i-1]
		i--
	}
	x.waiting[i] = e
}

func isAhead(a, b api.Event) bool {
	if a.Ts != b.Ts {
		return a.Ts < b.Ts
	}
	if a.Src != b.Src {
		return a.Src < b.Src
	}
	return a.Seq < b.Seq
}
