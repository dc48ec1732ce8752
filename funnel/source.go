package funnel

import "funnel/api"

// noSeq stands below every number that an event may have.
const noSeq = -1

// source: idle says nothing of one that is not in, so it is false there.
type source struct {
	in, idle bool
	mark     int
	silence  int    // at most MaxIdle
	last     int    // the greatest number that Push took
	line     []byte // of Feed, not whole yet
}

func (x *Engine) has(s int) bool {
	return s >= 0 && s < len(x.sources)
}

// checkIn tells the error of a call that needs a source that is in.
func (x *Engine) checkIn(s int) api.Errno {
	if !x.has(s) {
		return api.ErrSource
	}
	if !x.sources[s].in {
		return api.ErrState
	}
	return api.OK
}

func (x *Engine) touch(s int) {
	x.sources[s].silence = 0
	if x.sources[s].idle {
		x.activate(s)
	}
}

// activate brings the mark up to the merged one, which could go on without this source and never falls.
func (x *Engine) activate(s int) {
	x.sources[s].idle = false
	x.sources[s].silence = 0
	x.raise(s, x.merged)
}

// hush counts up to MaxIdle alone: a longer silence says nothing more.
func (x *Engine) hush(s int, n int) {
	silence := x.sources[s].silence + n
	if silence > api.MaxIdle {
		silence = api.MaxIdle
	}
	x.sources[s].silence = silence
	if x.config.Idle > 0 && silence >= x.config.Idle {
		x.sources[s].idle = true
	}
}

func (x *Engine) raise(s int, mark int) {
	if x.sources[s].mark < mark {
		x.sources[s].mark = mark
	}
}

func (x *Engine) waitingOf(s int) int {
	n := 0
	for _, e := range x.waiting {
		if e.Src == s {
			n++
		}
	}
	return n
}
