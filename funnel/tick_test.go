package funnel_test

import (
	"math"
	"testing"

	"funnel/api"
	"funnel/funnel"
)

func ticks(t *testing.T, x *funnel.Engine, n int) {
	t.Helper()
	answers(t, "P7: Tick", x.Tick(n), api.OK)
}

func isIdle(t *testing.T, x *funnel.Engine, s int, want bool) {
	t.Helper()
	if k, err := x.Source(s); err != api.OK || k.Idle != want {
		t.Errorf("P7: Source(%d) = %+v, %d, want Idle %t", s, k, err, want)
	}
}

// twoWithOneIdle: source 0 is idle, with the mark 10; source 1 is active, with 30.
func twoWithOneIdle(t *testing.T, policy int) *funnel.Engine {
	t.Helper()
	c := example
	c.Policy = policy
	x := engine(t, c, 0, 1)
	puncts(t, x, 0, 10)
	ticks(t, x, 4)
	puncts(t, x, 1, 30)
	hasMark(t, x, 10)
	ticks(t, x, 1)
	hasSource(t, x, 0, api.Source{In: true, Idle: true, Mark: 10, Last: -1})
	hasSource(t, x, 1, api.Source{In: true, Mark: 30, Last: -1})
	hasMark(t, x, 30)
	return x
}

func TestTickOfAWrongNumber(t *testing.T) {
	x := engine(t, example, 0, 1)
	pushes(t, x, 0, 0, 10, api.OK)
	for _, n := range []int{0, -1, -5, api.MaxIdle + 1, math.MinInt, math.MaxInt} {
		keeps(t, x, "P7: Tick", func() api.Errno { return x.Tick(n) }, api.ErrArg)
	}
	ticks(t, x, 4) // the wrong ones counted for nothing
	isIdle(t, x, 0, false)
	ticks(t, x, 1)
	isIdle(t, x, 0, true)
}

func TestTickUpToIdle(t *testing.T) {
	for _, idle := range []int{1, 2, 5, api.MaxIdle - 1, api.MaxIdle} {
		for _, n := range []int{1, 3, idle - 1, idle, api.MaxIdle} {
			if n < 1 {
				continue
			}
			c := example
			c.Idle = idle
			x := engine(t, c, 0)
			for silence := n; silence < 2*api.MaxIdle; silence += n {
				ticks(t, x, n)
				isIdle(t, x, 0, silence >= idle)
			}
		}
	}
}

func TestTickWithoutIdle(t *testing.T) {
	c := example
	c.Idle = 0
	x := engine(t, c, 0)
	pushes(t, x, 0, 0, 10, api.OK)
	for range 20 {
		ticks(t, x, api.MaxIdle)
		hasSource(t, x, 0, api.Source{In: true, Mark: 8, Waiting: 1, Last: 0})
		hasMark(t, x, 8)
	}
}

func TestTickIsForThoseThatAreIn(t *testing.T) {
	x := engine(t, example, 0)
	ticks(t, x, api.MaxIdle)
	hasSource(t, x, 1, api.Source{Mark: api.Least, Last: -1})
	answers(t, "P5: Join", x.Join(1), api.OK)
	ticks(t, x, 4)
	isIdle(t, x, 1, false)
	answers(t, "P5: Leave", x.Leave(1), api.OK)
	ticks(t, x, 1)
	isIdle(t, x, 1, false)
	answers(t, "P5: Join begins a new silence", x.Join(1), api.OK)
	ticks(t, x, 4)
	isIdle(t, x, 1, false)
	ticks(t, x, 1)
	isIdle(t, x, 1, true)
}

func TestTickSettles(t *testing.T) {
	x := engine(t, example, 0, 1)
	pushes(t, x, 0, 0, 20, api.OK)
	pushes(t, x, 0, 1, 18, api.OK)
	pushes(t, x, 0, 2, 19, api.OK)
	ticks(t, x, 4)
	puncts(t, x, 0, 19)
	hasMark(t, x, api.Least)
	ticks(t, x, 1) // source 1 alone held them back
	hasMark(t, x, 19)
	hasEvents(t, "P7: Log()", x.Log(), event(0, 1, 18, 'A', 0))
	ticks(t, x, 4) // now none is active
	hasSource(t, x, 0, api.Source{In: true, Idle: true, Mark: 19, Last: 2})
	hasMark(t, x, 21)
	hasEvents(t, "P7: Log()", x.Log(), event(0, 1, 18, 'A', 0), event(0, 2, 19, 'A', 0), event(0, 0, 20, 'A', 0))
	ticks(t, x, api.MaxIdle)
	hasMark(t, x, 21)
}

func TestIdleSourceIsLateBelowTheMergedMark(t *testing.T) {
	for _, policy := range []int{api.Drop, api.Side, api.Lift} {
		x := twoWithOneIdle(t, policy)
		pushes(t, x, 0, 0, 29, api.OK) // above its own mark
		hasSource(t, x, 0, api.Source{In: true, Mark: 30, Waiting: []int{0, 0, 1}[policy], Last: 0})
		hasMark(t, x, 30)
		if late := x.Late(); len(late) != []int{0, 1, 0}[policy] {
			t.Errorf("P6: Late() = %v", late)
		}
	}
}

func TestIdleSourceWithAMarkAboveTheMergedOne(t *testing.T) {
	x := engine(t, example, 0, 1)
	puncts(t, x, 0, 50)
	ticks(t, x, 4)
	puncts(t, x, 1, 30)
	ticks(t, x, 1)
	hasSource(t, x, 0, api.Source{In: true, Idle: true, Mark: 50, Last: -1})
	hasMark(t, x, 30)
	pushes(t, x, 0, 0, 49, api.OK) // late by its own mark, which touching leaves as it is
	hasSource(t, x, 0, api.Source{In: true, Mark: 50, Last: 0})
	hasEvents(t, "P6: Late()", x.Late(), event(0, 0, 49, 'A', 0))
}

func TestIdleSourceIsTouched(t *testing.T) {
	for name, c := range map[string]struct {
		call func(x *funnel.Engine) api.Errno
		mark int
	}{
		"Punct below":    {func(x *funnel.Engine) api.Errno { return x.Punct(0, 5) }, 30},
		"Punct above":    {func(x *funnel.Engine) api.Errno { return x.Punct(0, 40) }, 40},
		"Push, late":     {func(x *funnel.Engine) api.Errno { return x.Push(0, event(0, 0, 5, 'A', 0)) }, 30},
		"Push":           {func(x *funnel.Engine) api.Errno { return x.Push(0, event(0, 0, 30, 'A', 0)) }, 30},
		"Push above":     {func(x *funnel.Engine) api.Errno { return x.Push(0, event(0, 0, 40, 'A', 0)) }, 38},
		"Leave and Join": {func(x *funnel.Engine) api.Errno { x.Leave(0); return x.Join(0) }, 30},
		"Feed":           {func(x *funnel.Engine) api.Errno { _, err := x.Feed(0, "P 40\n"); return err }, 40},
	} {
		x := twoWithOneIdle(t, api.Drop)
		answers(t, name, c.call(x), api.OK)
		if k, _ := x.Source(0); k.Idle || !k.In || k.Mark != c.mark {
			t.Errorf("%s: %+v, want the mark %d", name, k, c.mark)
		}
		ticks(t, x, 4)
		isIdle(t, x, 0, false)
		isIdle(t, x, 1, true)
		ticks(t, x, 1)
		isIdle(t, x, 0, true)
	}
}

func TestSilenceEnds(t *testing.T) {
	for name, call := range map[string]func(x *funnel.Engine) api.Errno{
		"Punct":          func(x *funnel.Engine) api.Errno { return x.Punct(0, 5) },
		"Push":           func(x *funnel.Engine) api.Errno { return x.Push(0, event(0, 0, 90, 'A', 0)) },
		"Push, late":     func(x *funnel.Engine) api.Errno { return x.Push(0, event(0, 0, 1, 'A', 0)) },
		"Leave and Join": func(x *funnel.Engine) api.Errno { x.Leave(0); return x.Join(0) },
	} {
		x := engine(t, example, 0)
		puncts(t, x, 0, 10)
		ticks(t, x, 4)
		answers(t, name, call(x), api.OK)
		ticks(t, x, 4)
		isIdle(t, x, 0, false)
		ticks(t, x, 1)
		isIdle(t, x, 0, true)
	}
}

func TestWhatDoesNotTouch(t *testing.T) {
	for name, call := range map[string]func(x *funnel.Engine){
		"a time of Punct":  func(x *funnel.Engine) { x.Punct(0, most+1) },
		"a kind":           func(x *funnel.Engine) { x.Push(0, event(0, 1, 90, 'a', 0)) },
		"a time of Push":   func(x *funnel.Engine) { x.Push(0, event(0, 1, most+1, 'A', 0)) },
		"a number":         func(x *funnel.Engine) { x.Push(0, event(0, 0, 90, 'A', 0)) },
		"no room":          func(x *funnel.Engine) { x.Push(0, event(0, 1, 90, 'A', 0)) },
		"Join":             func(x *funnel.Engine) { x.Join(0) },
		"the other source": func(x *funnel.Engine) { x.Punct(1, 40) },
		"Feed, bad":        func(x *funnel.Engine) { x.Feed(0, "P  5\n") },
		"Feed, refused":    func(x *funnel.Engine) { x.Feed(0, "E 1 90 A 0\n") },
		"Feed, not whole":  func(x *funnel.Engine) { x.Feed(0, "P 5") },
		"asking":           func(x *funnel.Engine) { x.Source(0); x.Mark(); x.Log(); x.Late(); x.Matches() },
	} {
		x := engine(t, api.Config{Sources: 2, Room: 1, Idle: 5}, 0, 1)
		pushes(t, x, 0, 0, 90, api.OK)
		ticks(t, x, 4)
		puncts(t, x, 1, 30)
		call(x)
		ticks(t, x, 1)
		want := api.Source{In: true, Idle: true, Mark: 90, Waiting: 1, Last: 0}
		if k, _ := x.Source(0); k != want {
			t.Errorf("P1: %s ended a silence: %+v", name, k)
		}
		call(x)
		if k, _ := x.Source(0); k != want {
			t.Errorf("P1: %s made an idle one active: %+v", name, k)
		}
	}
}

func TestLeaveOfAnIdleSource(t *testing.T) {
	x := twoWithOneIdle(t, api.Drop)
	answers(t, "P5: Leave", x.Leave(0), api.OK)
	hasSource(t, x, 0, api.Source{Mark: 10, Last: -1})
	answers(t, "P5: Join", x.Join(0), api.OK)
	hasSource(t, x, 0, api.Source{In: true, Mark: 30, Last: -1})
}
