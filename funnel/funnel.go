// Package funnel: events of several sources, put in order, and patterns in them: see DOC.md.
package funnel

import (
	"funnel/api"
	"funnel/patterns"
)

// Engine: sources, what waits, what was let go.
type Engine struct {
	config  api.Config // without the text of the pattern
	pattern patterns.Pattern
	sources []source
	merged  int
	waiting []api.Event // in the events' order
	log     []api.Event
	late    []api.Event
}

// Check tells whether a pattern is one, and where it is not (P3).
func Check(pattern string) (api.Errno, int) {
	return patterns.Check(pattern)
}

// New makes an engine (P4).
func New(c api.Config) (*Engine, api.Errno) {
	if !isConfig(c) {
		return nil, api.ErrConfig
	}
	pattern, fault, _ := patterns.Read(c.Pattern)
	if fault != api.OK {
		return nil, api.ErrPattern
	}
	c.Pattern = "" // it is the caller's, and not kept
	x := Engine{config: c, pattern: pattern, merged: api.Least}
	for len(x.sources) < c.Sources {
		x.sources = append(x.sources, source{mark: api.Least, last: noSeq})
	}
	return &x, api.OK
}

// Join lets a source in (P5).
func (x *Engine) Join(s int) api.Errno {
	if !x.has(s) {
		return api.ErrSource
	}
	if x.sources[s].in {
		return api.ErrState
	}
	x.sources[s].in = true
	x.activate(s)
	x.settle()
	return api.OK
}

// Leave lets a source go (P5).
func (x *Engine) Leave(s int) api.Errno {
	fault := x.checkIn(s)
	if fault != api.OK {
		return fault
	}
	x.sources[s].in = false
	x.sources[s].idle = false
	x.settle()
	return api.OK
}

// Push takes an event (P6).
func (x *Engine) Push(s int, e api.Event) api.Errno {
	fault := x.checkPush(s, e)
	if fault != api.OK {
		return fault
	}
	late := x.isLate(s, e.Ts)
	fate := x.fate(late)
	full := x.isFull(s, fate)
	if full {
		return api.ErrFull
	}
	e.Src = s
	x.sources[s].last = e.Seq
	x.touch(s)
	x.place(e, fate)
	if !late {
		x.raise(s, e.Ts-x.config.Slack)
	}
	x.settle()
	return api.OK
}

// Punct says that a source is past a time (P6).
func (x *Engine) Punct(s int, ts int) api.Errno {
	fault := x.checkIn(s)
	if fault != api.OK {
		return fault
	}
	if !isTime(ts) {
		return api.ErrTime
	}
	x.touch(s)
	x.raise(s, ts)
	x.settle()
	return api.OK
}

// Tick lets time go by (P7).
func (x *Engine) Tick(n int) api.Errno {
	if !within(n, 1, api.MaxIdle) {
		return api.ErrArg
	}
	for s := range x.sources {
		if x.sources[s].in {
			x.hush(s, n)
		}
	}
	x.settle()
	return api.OK
}

// Feed takes bytes of lines (P8).
func (x *Engine) Feed(s int, text string) (api.Fed, api.Errno) {
	if len(text) > api.MaxChunk {
		return api.Fed{}, api.ErrArg
	}
	if !x.has(s) {
		return api.Fed{}, api.ErrSource
	}
	fed := api.Fed{}
	for i := 0; i < len(text); i++ {
		if text[i] != lineEnd {
			x.keep(s, text[i])
			continue
		}
		one := x.takeLine(s)
		fed.Good += one.Good
		fed.Refused += one.Refused
		fed.Bad += one.Bad
	}
	return fed, api.OK
}

// Mark tells the merged mark (P9).
func (x *Engine) Mark() int {
	return x.merged
}

// Source tells what is known of a source (P9).
func (x *Engine) Source(s int) (api.Source, api.Errno) {
	if !x.has(s) {
		return api.Source{}, api.ErrSource
	}
	waiting := x.waitingOf(s)
	k := x.sources[s]
	return api.Source{In: k.in, Idle: k.idle, Mark: k.mark, Waiting: waiting, Last: k.last}, api.OK
}

// Log tells what was let go (P9).
func (x *Engine) Log() []api.Event {
	return append([]api.Event{}, x.log...)
}

// Late tells what was laid aside (P9).
func (x *Engine) Late() []api.Event {
	return append([]api.Event{}, x.late...)
}

// Matches tells the matches of the pattern (P10).
func (x *Engine) Matches() ([][]int, bool) {
	return x.pattern.Find(x.log)
}
