package funnel_test

import (
	"math"
	"reflect"
	"slices"
	"strings"
	"testing"

	"funnel/api"
	"funnel/funnel"
)

const most = api.MaxTime

var example = api.Config{Sources: 2, Slack: 2, Policy: api.Side, Room: 4, Idle: 5}

func event(src, seq, ts int, kind byte, val int) api.Event {
	return api.Event{Src: src, Seq: seq, Ts: ts, Kind: int(kind), Val: val}
}

// engine makes one in which the named sources are in.
func engine(t *testing.T, c api.Config, in ...int) *funnel.Engine {
	t.Helper()
	x, err := funnel.New(c)
	if x == nil || err != api.OK {
		t.Fatalf("New(%+v): %d", c, err)
	}
	for _, s := range in {
		answers(t, "Join", x.Join(s), api.OK)
	}
	return x
}

func answers(t *testing.T, what string, err, want api.Errno) {
	t.Helper()
	if err != want {
		t.Errorf("%s: %d, want %d", what, err, want)
	}
}

func pushes(t *testing.T, x *funnel.Engine, s int, seq, ts int, want api.Errno) {
	t.Helper()
	answers(t, "Push", x.Push(s, event(0, seq, ts, 'A', 0)), want)
}

func puncts(t *testing.T, x *funnel.Engine, s, ts int) {
	t.Helper()
	answers(t, "Punct", x.Punct(s, ts), api.OK)
}

func hasMark(t *testing.T, x *funnel.Engine, want int) {
	t.Helper()
	if mark := x.Mark(); mark != want {
		t.Errorf("Mark() = %d, want %d", mark, want)
	}
}

func hasSource(t *testing.T, x *funnel.Engine, s int, want api.Source) {
	t.Helper()
	if k, err := x.Source(s); k != want || err != api.OK {
		t.Errorf("Source(%d) = %+v, %d, want %+v", s, k, err, want)
	}
}

func hasEvents(t *testing.T, what string, list []api.Event, want ...api.Event) {
	t.Helper()
	if !slices.Equal(list, want) {
		t.Errorf("%s = %v, want %v", what, list, want)
	}
}

// state: all that an engine tells.
type state struct {
	mark      int
	sources   [api.MaxSources]api.Source
	log, late []api.Event
	matches   [][]int
	more      bool
}

func stateOf(x *funnel.Engine) state {
	k := state{mark: x.Mark(), log: x.Log(), late: x.Late()}
	for s := range k.sources {
		k.sources[s], _ = x.Source(s)
	}
	k.matches, k.more = x.Matches()
	return k
}

// keeps fails if an error changed something.
func keeps(t *testing.T, x *funnel.Engine, what string, call func() api.Errno, want api.Errno) {
	t.Helper()
	ahead := stateOf(x)
	answers(t, what, call(), want)
	if behind := stateOf(x); !reflect.DeepEqual(ahead, behind) {
		t.Errorf("P1: %s changed %+v to %+v", what, ahead, behind)
	}
}

func TestExamples(t *testing.T) {
	x := engine(t, example)
	answers(t, "Push of a source that is not in", x.Push(0, event(0, 0, 10, 'A', 1)), api.ErrState)
	answers(t, "Join", x.Join(0), api.OK)
	answers(t, "Join", x.Join(1), api.OK)
	answers(t, "Push", x.Push(0, event(0, 0, 10, 'A', 1)), api.OK)
	hasSource(t, x, 0, api.Source{In: true, Mark: 8, Waiting: 1, Last: 0})
	hasMark(t, x, api.Least)

	answers(t, "Push of a number twice", x.Push(0, event(0, 0, 11, 'A', 1)), api.ErrSeq)
	answers(t, "Push", x.Push(0, event(0, 1, 7, 'B', 0)), api.OK)
	hasEvents(t, "Late()", x.Late(), event(0, 1, 7, 'B', 0))
	answers(t, "Push", x.Push(0, event(0, 2, 9, 'C', 0)), api.OK)
	hasSource(t, x, 0, api.Source{In: true, Mark: 8, Waiting: 2, Last: 2})

	puncts(t, x, 1, 9)
	hasMark(t, x, 8)
	hasEvents(t, "Log()", x.Log())
	puncts(t, x, 0, 10)
	hasMark(t, x, 9)
	hasEvents(t, "Log()", x.Log())
	puncts(t, x, 1, 30)
	hasMark(t, x, 10)
	hasEvents(t, "Log()", x.Log(), event(0, 2, 9, 'C', 0))
	answers(t, "Leave", x.Leave(0), api.OK)
	hasMark(t, x, 30)
	hasEvents(t, "Log()", x.Log(), event(0, 2, 9, 'C', 0), event(0, 0, 10, 'A', 1))

	answers(t, "Tick", x.Tick(5), api.OK)
	hasSource(t, x, 1, api.Source{In: true, Idle: true, Mark: 30, Last: -1})
	hasMark(t, x, 30)
	answers(t, "Push, late", x.Push(1, event(0, 0, 29, 'D', 0)), api.OK)
	hasEvents(t, "Late()", x.Late(), event(0, 1, 7, 'B', 0), event(1, 0, 29, 'D', 0))
	answers(t, "Push", x.Push(1, event(0, 1, 40, 'D', 0)), api.OK)
	hasMark(t, x, 38)
	answers(t, "Leave", x.Leave(1), api.OK)
	hasMark(t, x, 41)
	hasEvents(t, "Log()", x.Log(), event(0, 2, 9, 'C', 0), event(0, 0, 10, 'A', 1), event(1, 1, 40, 'D', 0))
}

func TestCheck(t *testing.T) {
	for _, c := range []struct {
		text string
		err  api.Errno
		at   int
	}{
		{"A!BC=@10", api.OK, 0}, {"A@", api.ErrPattern, 2}, {"!AB@1", api.ErrPattern, 0}, {"ABCD@1", api.ErrPattern, 3},
		{"A=", api.ErrPattern, 2}, {"A@1x", api.ErrPattern, 3}, {"", api.OK, 0}, {"A@1099511627777", api.ErrPattern, 14},
		{strings.Repeat("A", api.MaxPattern+1), api.ErrArg, 0},
	} {
		if err, at := funnel.Check(c.text); err != c.err || at != c.at {
			t.Errorf("P3: Check(%q) = %d, %d, want %d, %d", c.text, err, at, c.err, c.at)
		}
	}
}

func TestNewLooksAtEachNumber(t *testing.T) {
	for _, c := range []struct {
		name        string
		least, most int
		field       func(c *api.Config) *int
	}{
		{"Sources", 1, api.MaxSources, func(c *api.Config) *int { return &c.Sources }},
		{"Slack", 0, api.MaxSlack, func(c *api.Config) *int { return &c.Slack }},
		{"Policy", api.Drop, api.Lift, func(c *api.Config) *int { return &c.Policy }},
		{"Room", 1, api.MaxRoom, func(c *api.Config) *int { return &c.Room }},
		{"Idle", 0, api.MaxIdle, func(c *api.Config) *int { return &c.Idle }},
	} {
		for n, want := range map[int]api.Errno{
			c.least: api.OK, c.most: api.OK, c.least - 1: api.ErrConfig, c.most + 1: api.ErrConfig,
			math.MinInt: api.ErrConfig, math.MaxInt: api.ErrConfig,
		} {
			k := example
			*c.field(&k) = n
			if x, err := funnel.New(k); err != want || (x != nil) != (want == api.OK) {
				t.Errorf("P4: New with %s %d: %v, %d, want %d", c.name, n, x != nil, err, want)
			}
			k.Pattern = "?"
			if want == api.OK {
				want = api.ErrPattern
			}
			if x, err := funnel.New(k); err != want || x != nil {
				t.Errorf("P4: New with %s %d and no pattern: %v, %d, want %d", c.name, n, x != nil, err, want)
			}
		}
	}
}

func TestNewLooksAtThePattern(t *testing.T) {
	for pattern, want := range map[string]api.Errno{
		"": api.OK, "A!BC=@10": api.OK, "A!B@5": api.ErrPattern, "A@": api.ErrPattern,
		strings.Repeat("A", api.MaxPattern+1): api.ErrPattern,
	} {
		k := example
		k.Pattern = pattern
		if x, err := funnel.New(k); err != want || (x != nil) != (want == api.OK) {
			t.Errorf("P4: New with the pattern %q: %v, %d, want %d", pattern, x != nil, err, want)
		}
	}
}

func TestNewEngine(t *testing.T) {
	for n := 1; n <= api.MaxSources; n++ {
		k := example
		k.Sources = n
		x := engine(t, k)
		hasMark(t, x, api.Least)
		hasEvents(t, "Log()", x.Log())
		hasEvents(t, "Late()", x.Late())
		for s := range n {
			hasSource(t, x, s, api.Source{Mark: api.Least, Last: -1})
		}
		answers(t, "P5: Join of the last one", x.Join(n-1), api.OK)
		answers(t, "P5: Join of one more", x.Join(n), api.ErrSource)
	}
}

func TestErrorsOfNoSource(t *testing.T) {
	x := engine(t, example, 0, 1)
	for _, s := range []int{-1, 2, api.MaxSources, math.MinInt, math.MaxInt} {
		keeps(t, x, "P5: Join", func() api.Errno { return x.Join(s) }, api.ErrSource)
		keeps(t, x, "P5: Leave", func() api.Errno { return x.Leave(s) }, api.ErrSource)
		keeps(t, x, "P6: Push", func() api.Errno { return x.Push(s, api.Event{Seq: -1, Ts: math.MaxInt}) }, api.ErrSource)
		keeps(t, x, "P6: Punct", func() api.Errno { return x.Punct(s, math.MaxInt) }, api.ErrSource)
		if k, err := x.Source(s); k != (api.Source{}) || err != api.ErrSource {
			t.Errorf("P9: Source(%d) = %+v, %d", s, k, err)
		}
	}
}

func TestErrorsOfASourceThatIsInOrNot(t *testing.T) {
	x := engine(t, example, 1)
	keeps(t, x, "P5: Leave of one that is not in", func() api.Errno { return x.Leave(0) }, api.ErrState)
	keeps(t, x, "P6: Push of one that is not in", func() api.Errno { return x.Push(0, api.Event{Seq: -1}) }, api.ErrState)
	keeps(t, x, "P6: Punct of one that is not in", func() api.Errno { return x.Punct(0, math.MinInt) }, api.ErrState)
	keeps(t, x, "P5: Join of one that is in", func() api.Errno { return x.Join(1) }, api.ErrState)
	answers(t, "P5: Leave", x.Leave(1), api.OK)
	keeps(t, x, "P5: Leave twice", func() api.Errno { return x.Leave(1) }, api.ErrState)
	answers(t, "P5: Join again", x.Join(1), api.OK)
}

func TestLeaveKeepsMarkAndEvents(t *testing.T) {
	x := engine(t, example, 0, 1)
	pushes(t, x, 0, 3, 10, api.OK)
	pushes(t, x, 0, 4, 12, api.OK)
	puncts(t, x, 1, 5)
	answers(t, "P5: Leave", x.Leave(0), api.OK)
	hasSource(t, x, 0, api.Source{Mark: 10, Waiting: 2, Last: 4})
	hasMark(t, x, 5)
	answers(t, "P5: Join", x.Join(0), api.OK)
	hasSource(t, x, 0, api.Source{In: true, Mark: 10, Waiting: 2, Last: 4})
	pushes(t, x, 0, 4, 20, api.ErrSeq)
	pushes(t, x, 0, 5, 20, api.OK)
	pushes(t, x, 0, 6, 20, api.OK)
	pushes(t, x, 0, 7, 20, api.ErrFull)
}

func TestLeaveLetsTheOthersGoOn(t *testing.T) {
	x := engine(t, example, 0, 1)
	puncts(t, x, 1, 30)
	hasMark(t, x, api.Least)
	answers(t, "P5: Leave", x.Leave(0), api.OK)
	hasMark(t, x, 30)
}

func TestLastLeaveLetsAllGo(t *testing.T) {
	x := engine(t, example, 0, 1)
	pushes(t, x, 0, 0, 10, api.OK)
	pushes(t, x, 0, 1, 9, api.OK)
	answers(t, "P5: Leave", x.Leave(0), api.OK)
	hasMark(t, x, api.Least)
	hasEvents(t, "P5: Log()", x.Log())
	answers(t, "P5: Leave", x.Leave(1), api.OK)
	hasMark(t, x, 11)
	hasEvents(t, "P5: Log()", x.Log(), event(0, 1, 9, 'A', 0), event(0, 0, 10, 'A', 0))
}

func TestLastLeaveWithNothingWaiting(t *testing.T) {
	x := engine(t, example, 0, 1)
	puncts(t, x, 0, 50)
	puncts(t, x, 1, 30)
	answers(t, "P5: Leave", x.Leave(0), api.OK)
	answers(t, "P5: Leave", x.Leave(1), api.OK)
	hasMark(t, x, 30)
	answers(t, "P5: Join: its mark is above the merged one, which follows", x.Join(0), api.OK)
	hasMark(t, x, 50)
	answers(t, "P5: Join: its mark is below the merged one", x.Join(1), api.OK)
	hasSource(t, x, 1, api.Source{In: true, Mark: 50, Last: -1})
}

func TestLiftedIsLetGoBehindTheLog(t *testing.T) {
	k := example
	k.Policy = api.Lift
	x := engine(t, k, 0)
	pushes(t, x, 0, 0, 10, api.OK)
	answers(t, "P5: Leave", x.Leave(0), api.OK)
	hasMark(t, x, 11)
	answers(t, "P5: Join", x.Join(0), api.OK)
	pushes(t, x, 0, 1, 3, api.OK)
	answers(t, "P5: Leave", x.Leave(0), api.OK)
	hasMark(t, x, 12)
	hasEvents(t, "P6: Log()", x.Log(), event(0, 0, 10, 'A', 0), event(0, 1, 11, 'A', 0))
}

func TestPushLooksAtTheEvent(t *testing.T) {
	x := engine(t, example, 0)
	for _, c := range []struct {
		e    api.Event
		want api.Errno
	}{
		{event(0, -1, math.MaxInt, 'A', 0), api.ErrEvent},
		{event(0, most+1, 0, 'A', 0), api.ErrEvent},
		{event(0, math.MinInt, 0, 'A', 0), api.ErrEvent},
		{event(0, 0, 0, 'A'-1, 0), api.ErrEvent},
		{event(0, 0, 0, 'Z'+1, 0), api.ErrEvent},
		{api.Event{Kind: 256 + 'A'}, api.ErrEvent},
		{api.Event{Kind: -'A'}, api.ErrEvent},
		{event(0, 0, math.MaxInt, 'A', most+1), api.ErrEvent},
		{event(0, 0, 0, 'A', -most-1), api.ErrEvent},
		{event(0, 0, most+1, 'A', 0), api.ErrTime},
		{event(0, 0, -most-1, 'A', 0), api.ErrTime},
		{event(0, 0, math.MinInt, 'A', 0), api.ErrTime},
	} {
		keeps(t, x, "P6: Push", func() api.Errno { return x.Push(0, c.e) }, c.want)
	}
	answers(t, "P6: the least", x.Push(0, event(math.MinInt, 0, -most, 'A', -most)), api.OK)
	hasSource(t, x, 0, api.Source{In: true, Mark: -most - 2, Waiting: 1, Last: 0})
	answers(t, "P6: the greatest", x.Push(0, event(math.MaxInt, most, most, 'Z', most)), api.OK)
	hasSource(t, x, 0, api.Source{In: true, Mark: most - 2, Waiting: 1, Last: most})
	keeps(t, x, "P6: a time ahead of a number", func() api.Errno { return x.Push(0, event(0, most, most+1, 'Z', 0)) }, api.ErrTime)
	keeps(t, x, "P6: no number is left", func() api.Errno { return x.Push(0, event(0, most, most, 'Z', 0)) }, api.ErrSeq)
	answers(t, "P5: Leave", x.Leave(0), api.OK)
	hasMark(t, x, most+1)
	hasEvents(t, "P6: Log()", x.Log(), event(0, 0, -most, 'A', -most), event(0, most, most, 'Z', most))
}

func TestPushOfNumbers(t *testing.T) {
	for _, policy := range []int{api.Drop, api.Side, api.Lift} {
		k := example
		k.Policy = policy
		x := engine(t, k, 0, 1)
		puncts(t, x, 0, 100)
		pushes(t, x, 0, 5, 50, api.OK) // late, and still its number counts
		keeps(t, x, "P6: the same number", func() api.Errno { return x.Push(0, event(0, 5, 200, 'A', 0)) }, api.ErrSeq)
		keeps(t, x, "P6: a lower number", func() api.Errno { return x.Push(0, event(0, 4, 200, 'A', 0)) }, api.ErrSeq)
		pushes(t, x, 1, 0, 200, api.OK) // each source has its own
		pushes(t, x, 0, 6, 200, api.OK)
	}
}

func TestPushRaisesTheMark(t *testing.T) {
	k := example
	k.Room = api.MaxRoom
	x := engine(t, k, 0, 1)
	for i, c := range []struct{ ts, mark int }{
		{10, 8}, {8, 8}, {10, 8}, {11, 9}, {8, 9}, {20, 18}, {19, 18}, {17, 18}, {18, 18},
	} {
		pushes(t, x, 0, i, c.ts, api.OK)
		if k, _ := x.Source(0); k.Mark != c.mark {
			t.Errorf("P6: behind Ts %d the mark is %d, want %d", c.ts, k.Mark, c.mark)
		}
	}
	hasEvents(t, "P6: Late()", x.Late(), event(0, 4, 8, 'A', 0), event(0, 7, 17, 'A', 0))
}

func TestPunct(t *testing.T) {
	x := engine(t, example, 0)
	for _, ts := range []int{most + 1, -most - 1, math.MaxInt, math.MinInt} {
		keeps(t, x, "P6: Punct", func() api.Errno { return x.Punct(0, ts) }, api.ErrTime)
	}
	puncts(t, x, 0, -most)
	hasMark(t, x, -most)
	puncts(t, x, 0, 5)
	hasMark(t, x, 5)
	puncts(t, x, 0, 4)
	hasSource(t, x, 0, api.Source{In: true, Mark: 5, Last: -1})
	hasMark(t, x, 5)
	puncts(t, x, 0, most)
	hasMark(t, x, most)
}

func TestLatePolicies(t *testing.T) {
	for policy, want := range map[int]struct {
		waiting   int
		log, late []api.Event
	}{
		api.Drop: {0, nil, nil},
		api.Side: {0, nil, []api.Event{event(0, 0, 60, 'A', 6), event(0, 1, 40, 'B', 7)}},
		api.Lift: {2, []api.Event{event(0, 1, 50, 'B', 7), event(0, 0, 60, 'A', 6)}, nil},
	} {
		k := example
		k.Policy = policy
		x := engine(t, k, 0, 1)
		puncts(t, x, 0, 100)
		puncts(t, x, 1, 50)
		answers(t, "P6: late, above the merged mark", x.Push(0, event(5, 0, 60, 'A', 6)), api.OK)
		answers(t, "P6: late, below it", x.Push(0, event(5, 1, 40, 'B', 7)), api.OK)
		hasSource(t, x, 0, api.Source{In: true, Mark: 100, Waiting: want.waiting, Last: 1})
		answers(t, "P5: Leave", x.Leave(1), api.OK)
		hasEvents(t, "P6: Log()", x.Log(), want.log...)
		hasEvents(t, "P6: Late()", x.Late(), want.late...)
	}
}

func TestLiftAboveMaxTime(t *testing.T) {
	k := example
	k.Policy = api.Lift
	x := engine(t, k, 0)
	pushes(t, x, 0, 0, most, api.OK)
	answers(t, "P5: Leave", x.Leave(0), api.OK)
	answers(t, "P5: Join", x.Join(0), api.OK)
	pushes(t, x, 0, 1, most, api.OK)
	hasSource(t, x, 0, api.Source{In: true, Mark: most + 1, Waiting: 1, Last: 1})
	answers(t, "P5: Leave", x.Leave(0), api.OK)
	hasMark(t, x, most+2)
	hasEvents(t, "P6: Log()", x.Log(), event(0, 0, most, 'A', 0), event(0, 1, most+1, 'A', 0))
}

func TestRoom(t *testing.T) {
	for _, policy := range []int{api.Drop, api.Side, api.Lift} {
		k := api.Config{Sources: 2, Policy: policy, Room: 2}
		x := engine(t, k, 0, 1)
		pushes(t, x, 0, 0, 10, api.OK)
		pushes(t, x, 0, 1, 10, api.OK)
		keeps(t, x, "P6: a third", func() api.Errno { return x.Push(0, event(0, 2, 10, 'A', 0)) }, api.ErrFull)
		keeps(t, x, "P6: its number ahead of its room", func() api.Errno { return x.Push(0, event(0, 1, 10, 'A', 0)) }, api.ErrSeq)
		want := api.OK
		if policy == api.Lift {
			want = api.ErrFull
		}
		pushes(t, x, 0, 2, 5, want) // a late one needs room only if it is lifted
		pushes(t, x, 1, 0, 10, api.OK)
		pushes(t, x, 1, 1, 11, api.OK)
		hasEvents(t, "P6: Log()", x.Log())
		puncts(t, x, 0, 11)
		pushes(t, x, 0, 3, 12, api.OK) // those that were let go need none
	}
}

func TestMostEvents(t *testing.T) {
	for _, policy := range []int{api.Drop, api.Side, api.Lift} {
		k := api.Config{Sources: 1, Policy: policy, Room: api.MaxRoom}
		x := engine(t, k, 0)
		for i := range api.MaxEvents - 3 {
			pushes(t, x, 0, i, i, api.OK)
		}
		for i := range 3 {
			pushes(t, x, 0, 500+i, 500, api.OK)
		}
		if n := len(x.Log()); n != api.MaxEvents-3 {
			t.Errorf("P6: %d in the log", n)
		}
		hasSource(t, x, 0, api.Source{In: true, Mark: 500, Waiting: 3, Last: 502})
		keeps(t, x, "P6: one more", func() api.Errno { return x.Push(0, event(0, 600, 501, 'A', 0)) }, api.ErrFull)
		if policy == api.Lift {
			keeps(t, x, "P6: one more, lifted", func() api.Errno { return x.Push(0, event(0, 600, 1, 'A', 0)) }, api.ErrFull)
			continue
		}
		for i := range api.MaxEvents {
			pushes(t, x, 0, 600+i, 1, api.OK)
		}
		want := api.OK
		if policy == api.Side {
			want = api.ErrFull
		}
		pushes(t, x, 0, 900, 1, want)
	}
}

func TestLaidAsideNeedNoRoomOfTheLog(t *testing.T) {
	x := engine(t, api.Config{Sources: 1, Policy: api.Side, Room: 1}, 0)
	puncts(t, x, 0, 10)
	for i := range api.MaxEvents {
		pushes(t, x, 0, i, 9, api.OK)
	}
	keeps(t, x, "P6: one more aside", func() api.Errno { return x.Push(0, event(0, 300, 9, 'A', 0)) }, api.ErrFull)
	pushes(t, x, 0, 300, 10, api.OK)
}

func TestLogIsInOrder(t *testing.T) {
	x := engine(t, api.Config{Sources: 3, Slack: 10, Room: 9}, 0, 1, 2)
	pushes(t, x, 2, 0, 5, api.OK)
	pushes(t, x, 1, 7, 5, api.OK)
	pushes(t, x, 1, 8, 5, api.OK)
	pushes(t, x, 1, 9, 4, api.OK)
	pushes(t, x, 0, 3, 6, api.OK)
	pushes(t, x, 0, 4, 5, api.OK)
	hasEvents(t, "P9: Log()", x.Log())
	for s := range 3 {
		puncts(t, x, s, 6)
	}
	five := []api.Event{event(1, 9, 4, 'A', 0), event(0, 4, 5, 'A', 0), event(1, 7, 5, 'A', 0), event(1, 8, 5, 'A', 0), event(2, 0, 5, 'A', 0)}
	hasEvents(t, "P9: Log()", x.Log(), five...)
	hasSource(t, x, 0, api.Source{In: true, Mark: 6, Waiting: 1, Last: 4})
	for s := range 3 {
		puncts(t, x, s, 7)
	}
	hasEvents(t, "P9: Log()", x.Log(), append(five, event(0, 3, 6, 'A', 0))...)
}

// spoil writes into a list and into its spare room.
func spoil(list []api.Event) {
	list = list[:cap(list)]
	for i := range list {
		list[i] = event(7, 7, 7, 'Q', 7)
	}
}

func TestListsAreFresh(t *testing.T) {
	x := engine(t, example, 0)
	for i := range 20 {
		pushes(t, x, 0, 2*i, 10*i, api.OK)
		pushes(t, x, 0, 2*i+1, 10*i-5, api.OK)
		log, late := x.Log(), x.Late()
		wantLog, wantLate := slices.Clone(log), slices.Clone(late)
		again, lateAgain := x.Log(), x.Late()
		spoil(log)
		spoil(late)
		hasEvents(t, "P2: an earlier Log()", again, wantLog...)
		hasEvents(t, "P2: an earlier Late()", lateAgain, wantLate...)
		hasEvents(t, "P2: Log()", x.Log(), wantLog...)
		hasEvents(t, "P2: Late()", x.Late(), wantLate...)
	}
	log := x.Log()
	spoil(log)
	answers(t, "P5: Leave", x.Leave(0), api.OK)
	if slices.ContainsFunc(log, func(e api.Event) bool { return e.Kind != 'Q' }) {
		t.Error("P2: the engine writes into a list that it gave away")
	}
	if len(x.Log()) != 20 || len(x.Late()) != 20 {
		t.Errorf("P2: %d in the log, %d late", len(x.Log()), len(x.Late()))
	}
}

func TestAskingChangesNothing(t *testing.T) {
	k := example
	k.Pattern = "A!BA=@10"
	x := engine(t, k, 0, 1)
	for i := range 4 {
		pushes(t, x, 0, i, 10, api.OK)
	}
	pushes(t, x, 0, 4, 5, api.OK)
	puncts(t, x, 0, 12)
	puncts(t, x, 1, 11)
	pushes(t, x, 0, 5, 13, api.OK)
	once := stateOf(x)
	if len(once.log) != 4 || len(once.late) != 1 || len(once.matches) != 6 || once.sources[0].Waiting != 1 {
		t.Errorf("P2: %+v", once)
	}
	for range 3 {
		if again := stateOf(x); !reflect.DeepEqual(once, again) {
			t.Errorf("P2: %+v became %+v", once, again)
		}
	}
}

func TestEnginesShareNothing(t *testing.T) {
	x, y := engine(t, example, 0), engine(t, example)
	clean := stateOf(y)
	pushes(t, x, 0, 0, 10, api.OK)
	pushes(t, x, 0, 1, 3, api.OK)
	answers(t, "P5: Leave", x.Leave(0), api.OK)
	if behind := stateOf(y); !reflect.DeepEqual(clean, behind) {
		t.Errorf("P2: %+v became %+v", clean, behind)
	}
}

func TestNoCallPanics(t *testing.T) {
	wild := []int{math.MinInt, -most - 1, -most, -1, 0, 1, 5, 'A', most, most + 1, math.MaxInt}
	for _, policy := range []int{api.Drop, api.Side, api.Lift} {
		x := engine(t, api.Config{Sources: api.MaxSources, Policy: policy, Room: 1, Idle: 1, Pattern: "A!BA!CA=@1099511627776"})
		for _, s := range wild {
			x.Join(s)
			for _, a := range wild {
				x.Punct(s, a)
				for _, b := range wild {
					x.Push(s, api.Event{Src: a, Seq: a, Ts: b, Kind: 'A', Val: a})
					x.Push(s, api.Event{Src: b, Seq: b, Ts: a, Kind: a, Val: b})
				}
				x.Source(a)
			}
			x.Feed(s, "E 0 0 A 0\nP 0\n\x00\n\nE -9999999999999 9999999999999 A 0\nP")
			x.Tick(s)
			x.Punct(s, 0)
			x.Tick(1)
			x.Leave(s)
		}
		x.Mark()
		x.Log()
		x.Late()
		x.Matches()
	}
}
