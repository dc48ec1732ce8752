package funnel

import (
	"cmp"
	"fmt"
	"slices"
	"testing"

	"funnel/api"
)

// fallIdle does to a source that is in what its silence would do.
func fallIdle(x *Engine, s int) {
	x.sources[s].idle = true
	x.sources[s].silence = x.config.Idle
	x.settle()
}

func TestIdleSource(t *testing.T) {
	for _, policy := range []int{api.Drop, api.Side, api.Lift} {
		x, _ := New(api.Config{Sources: 2, Slack: 2, Policy: policy, Room: 4, Idle: 5})
		x.Join(0)
		x.Join(1)
		x.Punct(0, 10)
		x.Punct(1, 30)
		fallIdle(x, 0)
		if k, _ := x.Source(0); k != (api.Source{In: true, Idle: true, Mark: 10, Last: -1}) || x.Mark() != 30 {
			t.Errorf("P9: Source(0) = %+v, Mark() = %d", k, x.Mark())
		}
		// Above its own mark, but below the merged one: late.
		if err := x.Push(0, api.Event{Ts: 29, Kind: 'A'}); err != api.OK {
			t.Errorf("P6: Push: %d", err)
		}
		want := api.Source{In: true, Mark: 30, Waiting: []int{0, 0, 1}[policy], Last: 0}
		if k, _ := x.Source(0); k != want || x.sources[0].silence != 0 || x.Mark() != 30 {
			t.Errorf("P6: touched by Push: %+v, want %+v", k, want)
		}
		if late := x.Late(); len(late) != []int{0, 1, 0}[policy] {
			t.Errorf("P6: Late() = %v", late)
		}
	}
}

func TestIdleSourceIsTouched(t *testing.T) {
	for name, c := range map[string]struct {
		call func(x *Engine) api.Errno
		mark int
	}{
		"Punct below":    {func(x *Engine) api.Errno { return x.Punct(0, 5) }, 30},
		"Punct above":    {func(x *Engine) api.Errno { return x.Punct(0, 40) }, 40},
		"Push":           {func(x *Engine) api.Errno { return x.Push(0, api.Event{Ts: 30, Kind: 'A'}) }, 30},
		"Push above":     {func(x *Engine) api.Errno { return x.Push(0, api.Event{Ts: 40, Kind: 'A'}) }, 38},
		"Leave and Join": {func(x *Engine) api.Errno { x.Leave(0); return x.Join(0) }, 30},
	} {
		x, _ := New(api.Config{Sources: 2, Slack: 2, Room: 4, Idle: 5})
		x.Join(0)
		x.Join(1)
		x.Punct(1, 30)
		fallIdle(x, 0)
		if err := c.call(x); err != api.OK {
			t.Errorf("%s: %d", name, err)
		}
		if k, _ := x.Source(0); k.Idle || !k.In || k.Mark != c.mark || x.sources[0].silence != 0 {
			t.Errorf("%s: %+v, want the mark %d", name, k, c.mark)
		}
	}
}

func TestSilenceEnds(t *testing.T) {
	for name, call := range map[string]func(x *Engine) api.Errno{
		"Punct":          func(x *Engine) api.Errno { return x.Punct(0, 5) },
		"Push":           func(x *Engine) api.Errno { return x.Push(0, api.Event{Ts: 90, Kind: 'A'}) },
		"Push, late":     func(x *Engine) api.Errno { return x.Push(0, api.Event{Ts: 1, Kind: 'A'}) },
		"Leave and Join": func(x *Engine) api.Errno { x.Leave(0); return x.Join(0) },
	} {
		x, _ := New(api.Config{Sources: 1, Room: 4, Idle: 5})
		x.Join(0)
		x.Punct(0, 10)
		x.sources[0].silence = 3
		if err := call(x); err != api.OK || x.sources[0].silence != 0 {
			t.Errorf("%s: %d, the silence is %d", name, err, x.sources[0].silence)
		}
	}
}

func TestErrorDoesNotTouch(t *testing.T) {
	x, _ := New(api.Config{Sources: 2, Room: 1, Idle: 5})
	x.Join(0)
	x.Join(1)
	x.Punct(1, 30)
	x.Push(0, api.Event{Ts: 90, Kind: 'A'})
	fallIdle(x, 0)
	for name, err := range map[string]api.Errno{
		"a time":  x.Punct(0, api.MaxTime+1),
		"a kind":  x.Push(0, api.Event{Seq: 1}),
		"a Seq":   x.Push(0, api.Event{Seq: 0, Kind: 'A', Ts: 90}),
		"no room": x.Push(0, api.Event{Seq: 1, Kind: 'A', Ts: 90}),
	} {
		if k, _ := x.Source(0); err == api.OK || !k.Idle || k.Last != 0 || x.sources[0].silence != 5 {
			t.Errorf("P1: %s: %d, %+v", name, err, k)
		}
	}
}

func TestLeaveOfAnIdleSource(t *testing.T) {
	x, _ := New(api.Config{Sources: 1, Room: 1, Idle: 5})
	x.Join(0)
	fallIdle(x, 0)
	x.Leave(0)
	if k, _ := x.Source(0); k != (api.Source{Mark: api.Least, Last: -1}) {
		t.Errorf("P9: Source(0) = %+v", k)
	}
}

func TestAllIdleLetsAllGo(t *testing.T) {
	x, _ := New(api.Config{Sources: 1, Slack: 9, Room: 4, Idle: 5})
	x.Join(0)
	x.Push(0, api.Event{Seq: 0, Ts: 10, Kind: 'A'})
	x.Push(0, api.Event{Seq: 1, Ts: 8, Kind: 'A'})
	fallIdle(x, 0)
	if x.Mark() != 11 || len(x.Log()) != 2 {
		t.Errorf("settling: Mark() = %d, Log() = %v", x.Mark(), x.Log())
	}
}

// model: the document's words, with sorting and counting anew at every step.
type model struct {
	c             api.Config
	sources       []api.Source
	merged        int
	wait, log, by []api.Event
}

func newModel(c api.Config) *model {
	m := &model{c: c, merged: api.Least}
	for range c.Sources {
		m.sources = append(m.sources, api.Source{Mark: api.Least, Last: -1})
	}
	return m
}

func (m *model) settle() {
	var active []int
	for _, k := range m.sources {
		if k.In && !k.Idle {
			active = append(active, k.Mark)
		}
	}
	if len(active) > 0 {
		m.merged = max(m.merged, slices.Min(active))
	} else {
		for _, e := range m.wait {
			m.merged = max(m.merged, e.Ts+1)
		}
	}
	slices.SortFunc(m.wait, func(a, b api.Event) int {
		return cmp.Or(cmp.Compare(a.Ts, b.Ts), cmp.Compare(a.Src, b.Src), cmp.Compare(a.Seq, b.Seq))
	})
	for len(m.wait) > 0 && m.wait[0].Ts < m.merged {
		m.log = append(m.log, m.wait[0])
		m.wait = m.wait[1:]
	}
	for s := range m.sources {
		m.sources[s].Waiting = 0
	}
	for _, e := range m.wait {
		m.sources[e.Src].Waiting++
	}
}

func (m *model) touch(s int) {
	if m.sources[s].Idle {
		m.sources[s].Idle = false
		m.sources[s].Mark = max(m.sources[s].Mark, m.merged)
	}
}

func (m *model) join(s int) api.Errno {
	if m.sources[s].In {
		return api.ErrState
	}
	m.sources[s].In = true
	m.sources[s].Mark = max(m.sources[s].Mark, m.merged)
	m.settle()
	return api.OK
}

func (m *model) leave(s int) api.Errno {
	if !m.sources[s].In {
		return api.ErrState
	}
	m.sources[s].In, m.sources[s].Idle = false, false
	m.settle()
	return api.OK
}

func (m *model) punct(s, ts int) api.Errno {
	if !m.sources[s].In {
		return api.ErrState
	}
	m.touch(s)
	m.sources[s].Mark = max(m.sources[s].Mark, ts)
	m.settle()
	return api.OK
}

func (m *model) push(s int, e api.Event) api.Errno {
	k := &m.sources[s]
	if !k.In {
		return api.ErrState
	}
	if e.Seq <= k.Last {
		return api.ErrSeq
	}
	bound := k.Mark
	if k.Idle {
		bound = max(bound, m.merged)
	}
	late := e.Ts < bound
	waits := !late || m.c.Policy == api.Lift
	if waits && (k.Waiting >= m.c.Room || len(m.wait)+len(m.log) >= api.MaxEvents) {
		return api.ErrFull
	}
	if late && m.c.Policy == api.Side && len(m.by) >= api.MaxEvents {
		return api.ErrFull
	}
	m.touch(s)
	k.Last = e.Seq
	e.Src = s
	if !late {
		m.wait = append(m.wait, e)
		k.Mark = max(k.Mark, e.Ts-m.c.Slack)
	} else if m.c.Policy == api.Lift {
		e.Ts = max(e.Ts, m.merged)
		m.wait = append(m.wait, e)
	} else if m.c.Policy == api.Side {
		m.by = append(m.by, e)
	}
	m.settle()
	return api.OK
}

// dice: the same numbers at every run.
type dice uint64

func (d *dice) below(n int) int {
	*d = *d*6364136223846793005 + 1442695040888963407
	return int(uint64(*d)>>33) % n
}

// differs tells what the engine and the model do not agree on.
func differs(x *Engine, m *model) string {
	for s := range m.sources {
		if k, err := x.Source(s); k != m.sources[s] || err != api.OK {
			return fmt.Sprintf("Source(%d) = %+v, %d, want %+v", s, k, err, m.sources[s])
		}
	}
	if x.Mark() != m.merged {
		return fmt.Sprintf("Mark() = %d, want %d", x.Mark(), m.merged)
	}
	if !slices.Equal(x.Log(), m.log) {
		return fmt.Sprintf("Log() = %v, want %v", x.Log(), m.log)
	}
	if !slices.Equal(x.Late(), m.by) {
		return fmt.Sprintf("Late() = %v, want %v", x.Late(), m.by)
	}
	return ""
}

// step makes one call of both, and tells it and both answers.
func step(d *dice, x *Engine, m *model, near int) (string, api.Errno, api.Errno) {
	s := d.below(m.c.Sources)
	switch d.below(20) {
	case 0, 1:
		return fmt.Sprintf("Join(%d)", s), x.Join(s), m.join(s)
	case 2:
		return fmt.Sprintf("Leave(%d)", s), x.Leave(s), m.leave(s)
	case 3, 4, 5:
		ts := near + d.below(12) - 6
		return fmt.Sprintf("Punct(%d, %d)", s, ts), x.Punct(s, ts), m.punct(s, ts)
	case 6:
		if m.sources[s].In {
			fallIdle(x, s)
			m.sources[s].Idle = true
			m.settle()
		}
		return fmt.Sprintf("idle %d", s), api.OK, api.OK
	}
	e := api.Event{Src: d.below(9) - 4, Seq: max(0, m.sources[s].Last+d.below(4)), Ts: near + d.below(14) - 7, Kind: 'A' + d.below(26), Val: d.below(9)}
	return fmt.Sprintf("Push(%d, %v)", s, e), x.Push(s, e), m.push(s, e)
}

func TestAgainstTheModel(t *testing.T) {
	var d dice
	for round := range 600 {
		c := api.Config{Sources: 1 + d.below(api.MaxSources), Slack: d.below(6), Policy: round % 3, Room: 1 + d.below(8), Idle: 5}
		x, err := New(c)
		if err != api.OK {
			t.Fatalf("New(%+v): %d", c, err)
		}
		m := newModel(c)
		for n := range 500 {
			what, err, want := step(&d, x, m, n/4)
			if err != want {
				t.Fatalf("%+v, call %d: %s: %d, want %d", c, n, what, err, want)
			}
			if text := differs(x, m); text != "" {
				t.Fatalf("%+v, call %d: behind %s: %s", c, n, what, text)
			}
		}
	}
}
