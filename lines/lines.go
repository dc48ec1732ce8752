// Package lines: what a line of Feed asks for.
package lines

import "funnel/api"

// What a line asks for.
const (
	Bad   = 0 // nothing: it has no form that is known
	Push  = 1
	Punct = 2
)

const blank = ' '

// Line: Event speaks of Push alone, Ts of Punct alone.
type Line struct {
	Asks  int
	Event api.Event
	Ts    int
}

// reader: at is never beyond the text's end.
type reader struct {
	text string
	at   int
	bad  bool
}

// Read tells what a line asks for (P8). The byte that ends it does not belong to it.
func Read(text string) Line {
	if len(text) > api.MaxLine {
		return Line{Asks: Bad}
	}
	r := reader{text: text}
	line := r.line()
	if r.bad || r.at < len(text) {
		return Line{Asks: Bad}
	}
	return line
}

func (r *reader) line() Line {
	if r.next() == 'P' {
		return r.punct()
	}
	return r.push()
}

func (r *reader) push() Line {
	e := api.Event{}
	r.pass('E')
	r.pass(blank)
	e.Seq = r.number()
	r.pass(blank)
	e.Ts = r.number()
	r.pass(blank)
	e.Kind = r.kind()
	r.pass(blank)
	e.Val = r.number()
	return Line{Asks: Push, Event: e}
}

func (r *reader) punct() Line {
	r.pass('P')
	r.pass(blank)
	ts := r.number()
	return Line{Asks: Punct, Ts: ts}
}

// next tells the byte that comes, and at the end 0, which can stand nowhere in a line.
func (r *reader) next() byte {
	if r.at >= len(r.text) {
		return 0
	}
	return r.text[r.at]
}

// pass goes past a byte that must stand there.
func (r *reader) pass(b byte) {
	if r.next() != b {
		r.bad = true
		return
	}
	r.at++
}

func (r *reader) kind() int {
	b := r.next()
	if b < 'A' || b > 'Z' {
		r.bad = true
		return 0
	}
	r.at++
	return int(b)
}

func (r *reader) number() int {
	if r.next() != '-' {
		return r.digits()
	}
	r.at++
	n := r.digits()
	return -n
}

// digits stops at MaxDigits, so that the number stays small; one digit more is bad, since none can stand right behind a number.
func (r *reader) digits() int {
	first := r.at
	n := 0
	b := r.next()
	for b >= '0' && b <= '9' && r.at-first < api.MaxDigits {
		n = 10*n + int(b-'0')
		r.at++
		b = r.next()
	}
	if r.at == first {
		r.bad = true
	}
	return n
}
