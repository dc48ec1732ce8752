package funnel_test

import (
	"fmt"
	"slices"
	"strings"
	"testing"

	"funnel/api"
	"funnel/funnel"
)

// inLog makes an engine with these kinds in its log, all of one time and value, and a pattern.
func inLog(t *testing.T, pattern, kinds string) *funnel.Engine {
	t.Helper()
	x := engine(t, api.Config{Sources: api.MaxSources, Room: api.MaxRoom, Pattern: pattern})
	for i := range kinds {
		s := i / api.MaxRoom
		x.Join(s)
		answers(t, "Push", x.Push(s, event(0, i, 5, kinds[i], 0)), api.OK)
	}
	for s := range api.MaxSources {
		x.Leave(s)
	}
	if n := len(x.Log()); n != len(kinds) {
		t.Fatalf("%d in the log", n)
	}
	return x
}

func sameLists(a, b [][]int) bool {
	return slices.EqualFunc(a, b, slices.Equal[[]int])
}

func hasMatches(t *testing.T, x *funnel.Engine, what string, want ...[]int) {
	t.Helper()
	if list, more := x.Matches(); !sameLists(list, want) || more {
		t.Errorf("P10: %s: %v, %t, want %v", what, list, more, want)
	}
}

func TestMatchesExample(t *testing.T) {
	hasMatches(t, inLog(t, "AC@0", "ABAC"), "AC", []int{0, 3}, []int{2, 3})
	hasMatches(t, inLog(t, "A!BC@0", "ABAC"), "A!BC", []int{2, 3})
	hasMatches(t, inLog(t, "ABC@0", "ABAC"), "ABC", []int{0, 1, 3})
	hasMatches(t, inLog(t, "A@0", "ABAC"), "A", []int{0}, []int{2})
}

func TestMatchesWithoutAPattern(t *testing.T) {
	for _, kinds := range []string{"", "A", "ABAC", strings.Repeat("A", 150)} {
		x := inLog(t, "", kinds)
		if list, more := x.Matches(); len(list) != 0 || more {
			t.Errorf("P10: without a pattern: %v, %t", list, more)
		}
	}
}

func TestMatchesAreOfTheLogAlone(t *testing.T) {
	x := engine(t, api.Config{Sources: 1, Slack: 5, Policy: api.Side, Room: 9, Pattern: "AA@100"}, 0)
	hasMatches(t, x, "an empty log")
	pushes(t, x, 0, 0, 10, api.OK)
	pushes(t, x, 0, 1, 11, api.OK)
	pushes(t, x, 0, 2, 1, api.OK)
	hasMatches(t, x, "two that wait, one laid aside")
	puncts(t, x, 0, 11)
	hasMatches(t, x, "one in the log")
	puncts(t, x, 0, 12)
	hasMatches(t, x, "two in the log", []int{0, 1})
	pushes(t, x, 0, 3, 12, api.OK)
	hasMatches(t, x, "one more that waits", []int{0, 1})
	answers(t, "P5: Leave", x.Leave(0), api.OK)
	hasMatches(t, x, "three in the log", []int{0, 1}, []int{0, 2}, []int{1, 2})
}

func TestMatchesGoByTheOrderOfTheLog(t *testing.T) {
	x := engine(t, api.Config{Sources: 2, Slack: 100, Room: 9, Pattern: "A!CB=@10"}, 0, 1)
	answers(t, "Push", x.Push(1, event(0, 0, 15, 'B', 1)), api.OK)
	answers(t, "Push", x.Push(1, event(0, 1, 5, 'A', 1)), api.OK)
	answers(t, "Push", x.Push(0, event(0, 0, 12, 'C', 2)), api.OK)
	answers(t, "Push", x.Push(0, event(0, 1, 4, 'A', 1)), api.OK) // 11 apart
	answers(t, "Push", x.Push(0, event(0, 2, 15, 'C', 1)), api.OK)
	puncts(t, x, 0, 15)
	puncts(t, x, 1, 16)
	hasMatches(t, x, "the last one waits")
	answers(t, "P5: Leave", x.Leave(0), api.OK) // the C of 15 is of a lesser source: it stands between
	hasMatches(t, x, "barred")

	x = engine(t, api.Config{Sources: 2, Slack: 100, Room: 9, Pattern: "A!CB=@10"}, 0, 1)
	answers(t, "Push", x.Push(1, event(0, 0, 15, 'C', 1)), api.OK)
	answers(t, "Push", x.Push(0, event(0, 0, 15, 'B', 1)), api.OK)
	answers(t, "Push", x.Push(1, event(0, 1, 5, 'A', 1)), api.OK)
	answers(t, "P5: Leave", x.Leave(0), api.OK)
	answers(t, "P5: Leave", x.Leave(1), api.OK)
	hasMatches(t, x, "the C is of the greater source", []int{0, 1})
}

func TestMatchesOfLiftedEvents(t *testing.T) {
	x := engine(t, api.Config{Sources: 1, Policy: api.Lift, Room: 9, Pattern: "AB@1"}, 0)
	answers(t, "Push", x.Push(0, event(0, 0, most, 'A', 0)), api.OK)
	answers(t, "P5: Leave", x.Leave(0), api.OK)
	answers(t, "P5: Join", x.Join(0), api.OK)
	answers(t, "Push", x.Push(0, event(0, 1, 0, 'B', 0)), api.OK)
	answers(t, "P5: Leave", x.Leave(0), api.OK)
	hasEvents(t, "P6: Log()", x.Log(), event(0, 0, most, 'A', 0), event(0, 1, most+1, 'B', 0))
	hasMatches(t, x, "the time to which it was lifted counts", []int{0, 1})
}

func TestMatchesOfTheGreatestWindow(t *testing.T) {
	for ts, want := range map[int][][]int{0: {{0, 1}}, 1: nil, most: nil} {
		x := engine(t, api.Config{Sources: 1, Room: 9, Pattern: fmt.Sprintf("AA@%d", most)}, 0)
		pushes(t, x, 0, 0, -most, api.OK)
		pushes(t, x, 0, 1, ts, api.OK)
		answers(t, "P5: Leave", x.Leave(0), api.OK)
		hasMatches(t, x, fmt.Sprintf("from the least time to %d", ts), want...)
	}
}

func TestMatchesUpToMaxMatches(t *testing.T) {
	for n, more := range map[int]bool{api.MaxMatches - 1: false, api.MaxMatches: false, api.MaxMatches + 1: true, api.MaxSources * api.MaxRoom: true} {
		x := inLog(t, "A@0", strings.Repeat("A", n))
		var want [][]int
		for place := range min(n, api.MaxMatches) {
			want = append(want, []int{place})
		}
		if list, got := x.Matches(); !sameLists(list, want) || got != more {
			t.Errorf("P10: of %d: %v, %t", n, list, got)
		}
	}
}

func TestMatchesInAFullLog(t *testing.T) {
	kinds := strings.Repeat("A", 129) + "C" + strings.Repeat("D", 70)
	for pattern, want := range map[string]string{
		"A!BA!CD@999": "[] false", // all but the last step of many
		"AAA@1":       "[] false",
		"A!AAC@999":   "[[0 1 129] [1 2 129]",
		"CD@999":      "[[129 130] [129 131]",
		"C!DD@999":    "[[129 130]] false",
		"DDD@2":       "[[130 131 132] [131 132 133]",
	} {
		x := engine(t, api.Config{Sources: 1, Room: 1, Pattern: pattern}, 0)
		for i := range api.MaxEvents {
			x.Punct(0, i)
			answers(t, "Push", x.Push(0, event(0, i, i, kinds[i], 0)), api.OK)
		}
		answers(t, "P5: Leave", x.Leave(0), api.OK)
		list, more := x.Matches()
		if text := fmt.Sprint(list, more); !strings.HasPrefix(text, want) {
			t.Errorf("P10: %q: %s, want %s", pattern, text, want)
		}
	}
}

func TestMatchesAreFresh(t *testing.T) {
	x := inLog(t, "AAB@0", "AAABB")
	want := "[[0 1 3] [0 2 3] [1 2 3] [0 1 4] [0 2 4] [1 2 4]]"
	for range 3 {
		list, _ := x.Matches()
		again, _ := x.Matches()
		if fmt.Sprint(list) != want {
			t.Fatalf("P2: %v, want %s", list, want)
		}
		for i := range list {
			rest := fmt.Sprint(list[i+1:])
			match := list[i][:cap(list[i])]
			for k := range match {
				match[k] = 77
			}
			if fmt.Sprint(list[i+1:]) != rest {
				t.Errorf("P2: %s became %v", rest, list[i+1:])
			}
		}
		clear(list[:cap(list)])
		if fmt.Sprint(again) != want {
			t.Errorf("P2: %s became %v", want, again)
		}
	}
}

func TestEnginesShareNoPattern(t *testing.T) {
	x, y := inLog(t, "A!BC=@10", "ABAC"), inLog(t, "BA@10", "ABAC")
	hasMatches(t, x, "A!BC=@10", []int{2, 3})
	hasMatches(t, y, "BA@10", []int{1, 2})
	hasMatches(t, x, "A!BC=@10", []int{2, 3})
}
