package funnel_test

import (
	"cmp"
	"fmt"
	"slices"
	"strings"
	"testing"

	"funnel/api"
	"funnel/funnel"
)

func inOrder(a, b api.Event) int {
	return cmp.Or(cmp.Compare(a.Ts, b.Ts), cmp.Compare(a.Src, b.Src), cmp.Compare(a.Seq, b.Seq))
}

// kept counts what waits or is in the log.
func kept(k state) int {
	n := len(k.log)
	for _, s := range k.sources {
		n += s.Waiting
	}
	return n
}

// broken tells what of P11 a call broke.
func broken(ahead, behind state) string {
	for i, e := range behind.log {
		if i > 0 && inOrder(behind.log[i-1], e) >= 0 {
			return fmt.Sprintf("the log does not rise at %d: %v", i, behind.log)
		}
		if e.Ts >= behind.mark {
			return fmt.Sprintf("the mark %d is not above %v", behind.mark, e)
		}
	}
	if behind.mark < ahead.mark {
		return fmt.Sprintf("the mark fell from %d to %d", ahead.mark, behind.mark)
	}
	if n := len(ahead.log); len(behind.log) < n || !slices.Equal(behind.log[:n], ahead.log) {
		return fmt.Sprintf("the log %v became %v", ahead.log, behind.log)
	}
	if kept(behind) < kept(ahead) {
		return fmt.Sprintf("of %d events %d wait or are in the log", kept(ahead), kept(behind))
	}
	return ""
}

func TestTheLogRisesWhateverIsCalled(t *testing.T) {
	d := dice(11)
	for round := range 300 {
		c := api.Config{Sources: 1 + d.below(api.MaxSources), Slack: d.below(9), Policy: round % 3, Room: 1 + d.below(api.MaxRoom), Idle: d.below(7)}
		x, m := engine(t, c), newModel(c)
		for n := range 300 {
			ahead := stateOf(x)
			what, _, _ := step(&d, x, m, d.below(n+1)/3)
			if text := broken(ahead, stateOf(x)); text != "" {
				t.Fatalf("P11: %+v, call %d: behind %s: %s", c, n, what, text)
			}
		}
	}
}

func TestTheLogRisesAtTheEndOfTime(t *testing.T) {
	x := engine(t, api.Config{Sources: 2, Policy: api.Lift, Room: 2})
	for i := range api.MaxEvents {
		ahead := stateOf(x)
		s := (api.MaxEvents - i) % 2
		answers(t, "P5: Join", x.Join(s), api.OK)
		pushes(t, x, s, i, most-i%3, api.OK)
		answers(t, "P5: Leave", x.Leave(s), api.OK)
		behind := stateOf(x)
		if text := broken(ahead, behind); text != "" || len(behind.log) != i+1 {
			t.Fatalf("P11: call %d: %s", i, text)
		}
	}
	hasMark(t, x, most+api.MaxEvents)
}

// An event that is not late, or is lifted, waits or is in the log; a late one is neither.
func TestNoEventIsLost(t *testing.T) {
	d := dice(12)
	for round := range 300 {
		c := api.Config{Sources: 3, Slack: d.below(9), Policy: round % 3, Room: 9, Idle: 1 + d.below(9)}
		x := engine(t, c, 0, 1, 2)
		for n := range 150 {
			s := d.below(3)
			ahead := stateOf(x)
			k := ahead.sources[s]
			ts := n/3 + d.below(20) - 10
			late := ts < k.Mark || k.Idle && ts < ahead.mark
			if err := x.Push(s, event(0, n, ts, 'A', n)); err != api.OK {
				x.Tick(1 + d.below(3))
				continue
			}
			behind := stateOf(x)
			want, wantLate := kept(ahead)+1, len(ahead.late)
			if late && c.Policy != api.Lift {
				want--
			}
			if late && c.Policy == api.Side {
				wantLate++
			}
			if kept(behind) != want || len(behind.late) != wantLate {
				t.Fatalf("P11: %+v: Push(%d, %d) made %+v of %+v", c, s, ts, behind, ahead)
			}
			x.Tick(1)
		}
	}
}

// call: of one source, with its text if it is a Feed.
type call struct {
	push  bool
	e     api.Event
	punct bool
	ts    int
	text  string
}

// stream makes the calls of one source, and tells the events of it that are not late.
func (d *dice) stream(s, slack int) ([]call, []api.Event) {
	var calls []call
	var good []api.Event
	mark, at, seq := api.Least, d.below(30)-15, 0
	text := ""
	for range d.below(api.MaxRoom) {
		at += d.below(8)
		seq += 1 + d.below(3)
		e := api.Event{Src: s, Seq: seq, Ts: at - d.below(16), Kind: 'A' + d.below(3), Val: d.below(2)}
		switch d.below(5) {
		case 0:
			text += fmt.Sprintf("P %d\n", e.Ts)
			mark = max(mark, e.Ts)
			continue
		case 1:
			if text == "" {
				calls = append(calls, call{punct: true, ts: e.Ts})
				mark = max(mark, e.Ts)
			}
			continue
		case 2:
			text += fmt.Sprintf("E %d %d %c %d\n", e.Seq, e.Ts, e.Kind, e.Val)
		default:
			for text != "" {
				n := 1 + d.below(len(text))
				calls = append(calls, call{text: text[:n]})
				text = text[n:]
			}
			calls = append(calls, call{push: true, e: e})
		}
		if e.Ts >= mark {
			good = append(good, e)
			mark = max(mark, e.Ts-slack)
		}
	}
	if text != "" {
		calls = append(calls, call{text: text})
	}
	return calls, good
}

func (k call) make(t *testing.T, x *funnel.Engine, s int) {
	t.Helper()
	err := api.OK
	switch {
	case k.push:
		err = x.Push(s, k.e)
	case k.punct:
		err = x.Punct(s, k.ts)
	default:
		var fed api.Fed
		fed, err = x.Feed(s, k.text)
		if fed.Good != strings.Count(k.text, "\n") {
			t.Fatalf("P8: Feed(%d, %q) = %+v", s, k.text, fed)
		}
	}
	if err != api.OK {
		t.Fatalf("%+v of %d: %d", k, s, err)
	}
}

// mix makes the calls of all sources, each one's in their order, and lets each leave behind its last one.
func mix(t *testing.T, c api.Config, streams [][]call, next func(n int) int) *funnel.Engine {
	t.Helper()
	x := engine(t, c)
	var going []int
	for s := range streams {
		answers(t, "P5: Join", x.Join(s), api.OK)
		going = append(going, s)
	}
	rest := slices.Clone(streams)
	for len(going) > 0 {
		i := next(len(going))
		s := going[i]
		if len(rest[s]) == 0 {
			answers(t, "P5: Leave", x.Leave(s), api.OK)
			going = slices.Delete(going, i, i+1)
			continue
		}
		rest[s][0].make(t, x, s)
		rest[s] = rest[s][1:]
	}
	return x
}

func TestHoweverTheCallsAreMixed(t *testing.T) {
	d := dice(13)
	found := 0
	for round := range 300 {
		c := api.Config{Sources: 1 + d.below(api.MaxSources), Slack: d.below(20), Policy: round % 2, Room: api.MaxRoom, Idle: d.below(3), Pattern: d.pattern()}
		var streams [][]call
		var log []api.Event
		for s := range 1 + d.below(c.Sources) {
			calls, good := d.stream(s, c.Slack)
			streams = append(streams, calls)
			log = append(log, good...)
		}
		slices.SortFunc(log, inOrder)
		turn := 0
		first, firstMore := [][]int(nil), false
		for try, next := range []func(n int) int{
			func(n int) int { return 0 },
			func(n int) int { return n - 1 },
			func(n int) int { turn++; return turn % n },
			d.below, d.below, d.below,
		} {
			x := mix(t, c, streams, next)
			hasEvents(t, fmt.Sprintf("P11: %+v: Log()", c), x.Log(), log...)
			list, more := x.Matches()
			if try == 0 {
				first, firstMore = list, more
			}
			if !sameLists(list, first) || more != firstMore {
				t.Errorf("P11: %+v: Matches() = %v, %t, mixed otherwise %v, %t", c, list, more, first, firstMore)
			}
			if t.Failed() {
				t.FailNow()
			}
			found += len(list)
		}
	}
	if found == 0 {
		t.Error("there was no match at all")
	}
}
