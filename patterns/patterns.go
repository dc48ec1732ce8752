// Package patterns: which bytes are a pattern.
package patterns

import "funnel/api"

// What stands just ahead of a byte: it decides what the byte may be.
const (
	nothing    = 0
	step       = 1
	barSign    = 2 // the "!" ahead of the kind that may not stand between
	barredKind = 3
	sameSign   = 4 // the "="
	windowSign = 5 // the "@"
	digit      = 6
)

// reader: what the bytes so far leave to the next one.
type reader struct {
	ahead  int
	steps  int
	digits int
	window int
}

// Check tells whether text is a pattern, and where it is not (P3).
func Check(text string) (api.Errno, int) {
	if len(text) > api.MaxPattern {
		return api.ErrArg, 0
	}
	r := reader{}
	for i := 0; i < len(text); i++ {
		stands := r.take(text[i])
		if !stands {
			return api.ErrPattern, i
		}
	}
	if r.ahead != nothing && r.ahead != digit {
		return api.ErrPattern, len(text)
	}
	return api.OK, 0
}

// take reads one byte, and tells whether it can stand there.
func (r *reader) take(b byte) bool {
	switch r.ahead {
	case nothing, barredKind:
		return r.takeStep(b)
	case step:
		return r.takeBehindStep(b)
	case barSign:
		return r.takeBarredKind(b)
	case sameSign:
		return r.takeWindowSign(b)
	}
	return r.takeDigit(b)
}

func (r *reader) takeStep(b byte) bool {
	if !isLetter(b) || r.steps >= api.MaxSteps {
		return false
	}
	r.steps++
	r.ahead = step
	return true
}

func (r *reader) takeBehindStep(b byte) bool {
	switch b {
	case '=':
		r.ahead = sameSign
		return true
	case '@':
		return r.takeWindowSign(b)
	case '!':
		return r.takeBarSign()
	}
	return r.takeStep(b)
}

// takeBarSign refuses the sign behind the last step that may be: no step could follow it.
func (r *reader) takeBarSign() bool {
	if r.steps >= api.MaxSteps {
		return false
	}
	r.ahead = barSign
	return true
}

func (r *reader) takeBarredKind(b byte) bool {
	if !isLetter(b) {
		return false
	}
	r.ahead = barredKind
	return true
}

func (r *reader) takeWindowSign(b byte) bool {
	if b != '@' {
		return false
	}
	r.ahead = windowSign
	return true
}

func (r *reader) takeDigit(b byte) bool {
	if b < '0' || b > '9' || r.digits >= api.MaxDigits {
		return false
	}
	window := 10*r.window + int(b-'0')
	if window > api.MaxTime {
		return false
	}
	r.window = window
	r.digits++
	r.ahead = digit
	return true
}

func isLetter(b byte) bool {
	return b >= 'A' && b <= 'Z'
}
