package funnel_test

import (
	"cmp"
	"fmt"
	"regexp"
	"slices"
	"strconv"
	"strings"
	"testing"

	"funnel/api"
	"funnel/funnel"
	"funnel/patterns"
)

// model: the document's words, with sorting and counting anew at every step.
type model struct {
	c             api.Config
	pattern       patterns.Pattern
	sources       []api.Source
	silence       []int
	rest          []string // of Feed, no whole line yet
	merged        int
	wait, log, by []api.Event
}

func newModel(c api.Config) *model {
	m := &model{c: c, merged: api.Least}
	for range c.Sources {
		m.sources = append(m.sources, api.Source{Mark: api.Least, Last: -1})
	}
	m.pattern, _, _ = patterns.Read(c.Pattern)
	m.silence = make([]int, c.Sources)
	m.rest = make([]string, c.Sources)
	return m
}

func (m *model) settle() {
	var active []int
	for _, k := range m.sources {
		if k.In && !k.Idle {
			active = append(active, k.Mark)
		}
	}
	if len(active) > 0 {
		m.merged = max(m.merged, slices.Min(active))
	} else {
		for _, e := range m.wait {
			m.merged = max(m.merged, e.Ts+1)
		}
	}
	slices.SortFunc(m.wait, func(a, b api.Event) int {
		return cmp.Or(cmp.Compare(a.Ts, b.Ts), cmp.Compare(a.Src, b.Src), cmp.Compare(a.Seq, b.Seq))
	})
	for len(m.wait) > 0 && m.wait[0].Ts < m.merged {
		m.log = append(m.log, m.wait[0])
		m.wait = m.wait[1:]
	}
	for s := range m.sources {
		m.sources[s].Waiting = 0
	}
	for _, e := range m.wait {
		m.sources[e.Src].Waiting++
	}
}

func (m *model) touch(s int) {
	m.silence[s] = 0
	if m.sources[s].Idle {
		m.sources[s].Idle = false
		m.sources[s].Mark = max(m.sources[s].Mark, m.merged)
	}
}

func (m *model) join(s int) api.Errno {
	if m.sources[s].In {
		return api.ErrState
	}
	m.sources[s].In = true
	m.silence[s] = 0
	m.sources[s].Mark = max(m.sources[s].Mark, m.merged)
	m.settle()
	return api.OK
}

func (m *model) leave(s int) api.Errno {
	if !m.sources[s].In {
		return api.ErrState
	}
	m.sources[s].In, m.sources[s].Idle = false, false
	m.settle()
	return api.OK
}

func (m *model) punct(s, ts int) api.Errno {
	if !m.sources[s].In {
		return api.ErrState
	}
	if ts < -most || ts > most {
		return api.ErrTime
	}
	m.touch(s)
	m.sources[s].Mark = max(m.sources[s].Mark, ts)
	m.settle()
	return api.OK
}

func (m *model) push(s int, e api.Event) api.Errno {
	k := &m.sources[s]
	if !k.In {
		return api.ErrState
	}
	if e.Seq < 0 || e.Seq > most || e.Kind < 'A' || e.Kind > 'Z' || e.Val < -most || e.Val > most {
		return api.ErrEvent
	}
	if e.Ts < -most || e.Ts > most {
		return api.ErrTime
	}
	if e.Seq <= k.Last {
		return api.ErrSeq
	}
	bound := k.Mark
	if k.Idle {
		bound = max(bound, m.merged)
	}
	late := e.Ts < bound
	waits := !late || m.c.Policy == api.Lift
	if waits && (k.Waiting >= m.c.Room || len(m.wait)+len(m.log) >= api.MaxEvents) {
		return api.ErrFull
	}
	if late && m.c.Policy == api.Side && len(m.by) >= api.MaxEvents {
		return api.ErrFull
	}
	m.touch(s)
	k.Last = e.Seq
	e.Src = s
	if !late {
		m.wait = append(m.wait, e)
		k.Mark = max(k.Mark, e.Ts-m.c.Slack)
	} else if m.c.Policy == api.Lift {
		e.Ts = max(e.Ts, m.merged)
		m.wait = append(m.wait, e)
	} else if m.c.Policy == api.Side {
		m.by = append(m.by, e)
	}
	m.settle()
	return api.OK
}

func (m *model) tick(n int) api.Errno {
	if n < 1 || n > api.MaxIdle {
		return api.ErrArg
	}
	for s := range m.sources {
		if !m.sources[s].In {
			continue
		}
		m.silence[s] += n
		if m.c.Idle > 0 && m.silence[s] >= m.c.Idle {
			m.sources[s].Idle = true
		}
	}
	m.settle()
	return api.OK
}

var (
	pushLine  = regexp.MustCompile(`^E (-?[0-9]{1,13}) (-?[0-9]{1,13}) ([A-Z]) (-?[0-9]{1,13})$`)
	punctLine = regexp.MustCompile(`^P (-?[0-9]{1,13})$`)
)

func (m *model) feed(s int, text string) (api.Fed, api.Errno) {
	if len(text) > api.MaxChunk {
		return api.Fed{}, api.ErrArg
	}
	var f api.Fed
	lines := strings.Split(m.rest[s]+text, "\n")
	m.rest[s] = lines[len(lines)-1]
	for _, line := range lines[:len(lines)-1] {
		push, punct := pushLine.FindStringSubmatch(line), punctLine.FindStringSubmatch(line)
		err := api.OK
		switch {
		case len(line) > api.MaxLine || push == nil && punct == nil:
			f.Bad++
			continue
		case push != nil:
			err = m.push(s, api.Event{Seq: number(push[1]), Ts: number(push[2]), Kind: int(push[3][0]), Val: number(push[4])})
		default:
			err = m.punct(s, number(punct[1]))
		}
		if err == api.OK {
			f.Good++
		} else {
			f.Refused++
		}
	}
	return f, api.OK
}

func number(text string) int {
	n, _ := strconv.Atoi(text)
	return n
}

// dice: the same numbers at every run.
type dice uint64

func (d *dice) below(n int) int {
	*d = *d*6364136223846793005 + 1442695040888963407
	return int(uint64(*d)>>33) % n
}

// differs tells what the engine and the model do not agree on.
func differs(x *funnel.Engine, m *model) string {
	for s := range m.sources {
		if k, err := x.Source(s); k != m.sources[s] || err != api.OK {
			return fmt.Sprintf("Source(%d) = %+v, %d, want %+v", s, k, err, m.sources[s])
		}
	}
	if x.Mark() != m.merged {
		return fmt.Sprintf("Mark() = %d, want %d", x.Mark(), m.merged)
	}
	if !slices.Equal(x.Log(), m.log) {
		return fmt.Sprintf("Log() = %v, want %v", x.Log(), m.log)
	}
	if !slices.Equal(x.Late(), m.by) {
		return fmt.Sprintf("Late() = %v, want %v", x.Late(), m.by)
	}
	list, more := x.Matches()
	wantList, wantMore := m.pattern.Find(m.log)
	if !sameLists(list, wantList) || more != wantMore {
		return fmt.Sprintf("Matches() = %v, %t, want %v, %t", list, more, wantList, wantMore)
	}
	return ""
}

func (d *dice) pattern() string {
	all := []string{"", "A@0", "AB@3", "A!BA@9", "AA=@5", "A!BC=@20", "ABC@6", "A!CB!CA@40", "A!BA!CA=@1099511627776"}
	return all[d.below(len(all))]
}

func (d *dice) event(m *model, s, near int) api.Event {
	return api.Event{Src: d.below(9) - 4, Seq: max(0, m.sources[s].Last+d.below(4)), Ts: near + d.below(14) - 7, Kind: 'A' + d.below(1+d.below(26)), Val: d.below(5)}
}

// line has a form that is known, but now and then a fault.
func (d *dice) line(m *model, s, near int) string {
	e := d.event(m, s, near)
	text := fmt.Sprintf("E %d %d %c %d\n", e.Seq, e.Ts, e.Kind, e.Val)
	if d.below(4) == 0 {
		text = fmt.Sprintf("P %d\n", e.Ts)
	}
	at := d.below(len(text))
	switch d.below(12) {
	case 0:
		return text[:at] + text[at+1:]
	case 1:
		return text[:at] + string("09-- \nAEP\x00"[d.below(10)]) + text[at:]
	case 2:
		return text[:at]
	case 3:
		return text[at:]
	case 4:
		return strings.Repeat("0", d.below(3*api.MaxLine)) + text
	case 5:
		return strings.Replace(text, " ", " "+strings.Repeat("0", d.below(14)), 1+d.below(2))
	case 6:
		return fmt.Sprintf("P %d\n", most-2+d.below(5)-(d.below(2)*2*most))
	}
	return text
}

func (d *dice) text(m *model, s, near int) string {
	text := ""
	for range d.below(4) {
		text += d.line(m, s, near)
	}
	if d.below(200) == 0 {
		text += strings.Repeat(" ", api.MaxChunk)
	}
	return text
}

// step makes one call of both, and tells it and both answers.
func step(d *dice, x *funnel.Engine, m *model, near int) (what, got, want string) {
	s := d.below(m.c.Sources)
	switch d.below(24) {
	case 0, 1:
		return fmt.Sprintf("Join(%d)", s), fmt.Sprint(x.Join(s)), fmt.Sprint(m.join(s))
	case 2:
		return fmt.Sprintf("Leave(%d)", s), fmt.Sprint(x.Leave(s)), fmt.Sprint(m.leave(s))
	case 3, 4, 5:
		ts := near + d.below(12) - 6
		return fmt.Sprintf("Punct(%d, %d)", s, ts), fmt.Sprint(x.Punct(s, ts)), fmt.Sprint(m.punct(s, ts))
	case 6, 7, 8:
		n := d.below(4)
		return fmt.Sprintf("Tick(%d)", n), fmt.Sprint(x.Tick(n)), fmt.Sprint(m.tick(n))
	case 9, 10, 11:
		text := d.text(m, s, near)
		return fmt.Sprintf("Feed(%d, %q)", s, text), fmt.Sprint(x.Feed(s, text)), fmt.Sprint(m.feed(s, text))
	}
	e := d.event(m, s, near)
	return fmt.Sprintf("Push(%d, %v)", s, e), fmt.Sprint(x.Push(s, e)), fmt.Sprint(m.push(s, e))
}

func TestAgainstTheModel(t *testing.T) {
	var d dice
	for round := range 600 {
		c := api.Config{Sources: 1 + d.below(api.MaxSources), Slack: d.below(6), Policy: round % 3, Room: 1 + d.below(8), Idle: d.below(12), Pattern: d.pattern()}
		x, err := funnel.New(c)
		if err != api.OK {
			t.Fatalf("New(%+v): %d", c, err)
		}
		m := newModel(c)
		for n := range 500 {
			what, got, want := step(&d, x, m, n/4)
			if got != want {
				t.Fatalf("%+v, call %d: %s: %s, want %s", c, n, what, got, want)
			}
			if text := differs(x, m); text != "" {
				t.Fatalf("%+v, call %d: behind %s: %s", c, n, what, text)
			}
		}
	}
}
