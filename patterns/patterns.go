// Package patterns: which bytes are a pattern, and where a log matches it.
package patterns

import "funnel/api"

// What stands just ahead of a byte: it decides what the byte may be.
const (
	nothing    = 0
	stepKind   = 1
	barSign    = 2 // the "!" ahead of the kind that may not stand between
	barredKind = 3
	sameSign   = 4 // the "="
	windowSign = 5 // the "@"
	digit      = 6
)

// noKind is the kind of no event.
const noKind = 0

// Pattern: what the bytes ask for. One without steps is matched by nothing.
type Pattern struct {
	steps  []step
	same   bool
	window int
}

// step: barred is the kind that may not stand between it and the step ahead of it.
type step struct {
	kind   int
	barred int
}

// reader: what the bytes so far are, and what they leave to the next one.
type reader struct {
	ahead   int
	barred  int
	digits  int
	pattern Pattern
}

// Check tells whether text is a pattern, and where it is not (P3).
func Check(text string) (api.Errno, int) {
	_, fault, place := Read(text)
	return fault, place
}

// Read tells the pattern that text is, or the error and the place that Check tells.
func Read(text string) (Pattern, api.Errno, int) {
	if len(text) > api.MaxPattern {
		return Pattern{}, api.ErrArg, 0
	}
	r := reader{}
	for i := 0; i < len(text); i++ {
		stands := r.take(text[i])
		if !stands {
			return Pattern{}, api.ErrPattern, i
		}
	}
	if r.ahead != nothing && r.ahead != digit {
		return Pattern{}, api.ErrPattern, len(text)
	}
	return r.pattern, api.OK, 0
}

// take reads one byte, and tells whether it can stand there.
func (r *reader) take(b byte) bool {
	switch r.ahead {
	case nothing, barredKind:
		return r.takeStep(b)
	case stepKind:
		return r.takeBehindStep(b)
	case barSign:
		return r.takeBarredKind(b)
	case sameSign:
		return r.takeWindowSign(b)
	}
	return r.takeDigit(b)
}

func (r *reader) takeStep(b byte) bool {
	if !isLetter(b) || len(r.pattern.steps) >= api.MaxSteps {
		return false
	}
	r.pattern.steps = append(r.pattern.steps, step{kind: int(b), barred: r.barred})
	r.barred = noKind
	r.ahead = stepKind
	return true
}

func (r *reader) takeBehindStep(b byte) bool {
	switch b {
	case '=':
		r.pattern.same = true
		r.ahead = sameSign
		return true
	case '@':
		return r.takeWindowSign(b)
	case '!':
		return r.takeBarSign()
	}
	return r.takeStep(b)
}

// takeBarSign refuses the sign behind the last step that may be: no step could follow it.
func (r *reader) takeBarSign() bool {
	if len(r.pattern.steps) >= api.MaxSteps {
		return false
	}
	r.ahead = barSign
	return true
}

func (r *reader) takeBarredKind(b byte) bool {
	if !isLetter(b) {
		return false
	}
	r.barred = int(b)
	r.ahead = barredKind
	return true
}

func (r *reader) takeWindowSign(b byte) bool {
	if b != '@' {
		return false
	}
	r.ahead = windowSign
	return true
}

func (r *reader) takeDigit(b byte) bool {
	if b < '0' || b > '9' || r.digits >= api.MaxDigits {
		return false
	}
	window := 10*r.pattern.window + int(b-'0')
	if window > api.MaxTime {
		return false
	}
	r.pattern.window = window
	r.digits++
	r.ahead = digit
	return true
}

func isLetter(b byte) bool {
	return b >= 'A' && b <= 'Z'
}
