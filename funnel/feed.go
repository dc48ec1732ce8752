package funnel

import (
	"funnel/api"
	"funnel/lines"
)

const lineEnd = 10

// keep stops one byte above MaxLine: with it the line is bad, whatever else comes.
func (x *Engine) keep(s int, b byte) {
	if len(x.sources[s].line) <= api.MaxLine {
		x.sources[s].line = append(x.sources[s].line, b)
	}
}

// takeLine does what the line that is whole now asks for.
func (x *Engine) takeLine(s int) api.Fed {
	line := lines.Read(string(x.sources[s].line))
	x.sources[s].line = nil
	switch line.Asks {
	case lines.Push:
		fault := x.Push(s, line.Event)
		return answered(fault)
	case lines.Punct:
		fault := x.Punct(s, line.Ts)
		return answered(fault)
	}
	return api.Fed{Bad: 1}
}

func answered(fault api.Errno) api.Fed {
	if fault != api.OK {
		return api.Fed{Refused: 1}
	}
	return api.Fed{Good: 1}
}
