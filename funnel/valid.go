package funnel

import "funnel/api"

func isConfig(c api.Config) bool {
	return within(c.Sources, 1, api.MaxSources) &&
		within(c.Slack, 0, api.MaxSlack) &&
		within(c.Policy, api.Drop, api.Lift) &&
		within(c.Room, 1, api.MaxRoom) &&
		within(c.Idle, 0, api.MaxIdle)
}

// isEvent leaves the time aside: it has an error of its own.
func isEvent(e api.Event) bool {
	return within(e.Seq, 0, api.MaxTime) &&
		within(e.Kind, 'A', 'Z') &&
		within(e.Val, -api.MaxTime, api.MaxTime)
}

func isTime(ts int) bool {
	return within(ts, -api.MaxTime, api.MaxTime)
}

func within(n, least, most int) bool {
	return n >= least && n <= most
}
