package patterns

import (
	"cmp"
	"fmt"
	"reflect"
	"regexp"
	"slices"
	"strconv"
	"strings"
	"testing"

	"funnel/api"
)

// logOf: of each event a letter and a digit, its value; a blank is a step of time.
func logOf(text string) []api.Event {
	var log []api.Event
	ts := 0
	for i := 0; i < len(text); i++ {
		if text[i] == ' ' {
			ts++
			continue
		}
		log = append(log, api.Event{Seq: len(log), Ts: ts, Kind: int(text[i]), Val: int(text[i+1] - '0')})
		i++
	}
	return log
}

func find(t *testing.T, text string, log []api.Event) ([][]int, bool) {
	t.Helper()
	p, err, at := Read(text)
	if err != api.OK || at != 0 {
		t.Fatalf("Read(%q): %d, %d", text, err, at)
	}
	return p.Find(log)
}

func finds(t *testing.T, text string, log []api.Event, want [][]int, wantMore bool) {
	t.Helper()
	if got, more := find(t, text, log); !slices.EqualFunc(got, want, slices.Equal[[]int]) || more != wantMore {
		t.Errorf("P10: %q in %v: %v, %t, want %v, %t", text, log, got, more, want, wantMore)
	}
}

func TestFind(t *testing.T) {
	for _, c := range []struct {
		text, log, want string
	}{
		// Of the document.
		{"AC@0", "A1B1A1C1", "[[0 3] [2 3]]"},
		{"A!BC@0", "A1B1A1C1", "[[2 3]]"},
		{"ABC@0", "A1B1A1C1", "[[0 1 3]]"},
		{"A@0", "A1B1A1C1", "[[0] [2]]"},
		// No pattern, no event, no kind.
		{"", "A1B1", "[]"},
		{"", "", "[]"},
		{"A@9", "", "[]"},
		{"ABC@9", "A1B1", "[]"},
		{"D@9", "A1B1C1", "[]"},
		// The kinds, in this order, at places of their own.
		{"AB@9", "B1A1", "[]"},
		{"AA@9", "A1", "[]"},
		{"AAA@9", "A1A1A1", "[[0 1 2]]"},
		{"AZ@9", "A1Y1Z1", "[[0 2]]"},
		// By the last place, then the first, then the second.
		{"AB@9", "A1A1B1B1", "[[0 2] [1 2] [0 3] [1 3]]"},
		{"AAA@9", "A1A1A1A1", "[[0 1 2] [0 1 3] [0 2 3] [1 2 3]]"},
		{"ABC@9", "A1B1A1B1C1C1", "[[0 1 4] [0 3 4] [2 3 4] [0 1 5] [0 3 5] [2 3 5]]"},
		// The window is from the first to the last.
		{"AB@0", "A1 B1", "[]"},
		{"AB@1", "A1 B1", "[[0 1]]"},
		{"AB@1", "A1 A1 B1", "[[1 2]]"},
		{"ABC@2", "A1 B1 C1", "[[0 1 2]]"},
		{"ABC@1", "A1 B1 C1", "[]"},
		{"ABC@2", "A1 A1 B1 C1", "[[1 2 3]]"},
		{"A@0", "A1 A1", "[[0] [1]]"},
		{"AB@10", "A1          B1", "[[0 1]]"},
		{"AB@10", "A1           B1", "[]"},
		{"AB@0010", "A1          B1", "[[0 1]]"},
		// What may not stand between.
		{"A!BC@9", "A1B1C1", "[]"},
		{"A!BC@9", "B1A1C1B1", "[[1 2]]"},
		{"A!BC@9", "A1C1B1C1", "[[0 1]]"},
		{"A!BC@9", "A1D1C1", "[[0 2]]"},
		{"A!AA@9", "A1A1A1", "[[0 1] [1 2]]"},
		{"A!BB@9", "A1B1B1", "[[0 1]]"},
		{"A!AB@9", "A1A1B1", "[[1 2]]"},
		{"A!BA!BA@9", "A1A1B1A1A1A1", "[[3 4 5]]"},
		{"AB!CD@9", "A1C1B1D1", "[[0 2 3]]"},
		{"AB!CD@9", "A1B1C1D1", "[]"},
		{"A!CBD@9", "A1C1B1D1", "[]"},
		{"A!CBD@9", "A1B1C1D1", "[[0 1 3]]"},
		{"A!CB!ED@9", "A1E1B1C1D1", "[[0 2 4]]"},
		{"A!CB!CD@9", "A1B1C1B1D1", "[]"},
		{"AB!AB@9", "A1B1A1B1B1", "[[0 3 4] [2 3 4]]"},
		{"A!BA@9", "A1B1A1 A1", "[[2 3]]"},
		// One value.
		{"AB=@9", "A1A2B2B1", "[[1 2] [0 3]]"},
		{"AB@9", "A1A2B2B1", "[[0 2] [1 2] [0 3] [1 3]]"},
		{"ABC=@9", "A1B2C1", "[]"},
		{"ABC=@9", "A1B2B1C1", "[[0 2 3]]"},
		{"ABC=@9", "A2B1C1", "[]"},
		{"ABC=@9", "A1B1C2", "[]"},
		{"A=@9", "A1A2A3", "[[0] [1] [2]]"},
		{"A!BC=@9", "A1B2C1", "[[0 2]]"},
		{"A!BC=@9", "A1B1C1", "[]"},
		{"A!BC@9", "A1B2C1", "[]"},
		{"A!BC=@9", "A1A2B2C1C2", "[[0 3]]"},
		{"A!AA=@9", "A1A2A1A2A1", "[[0 2] [1 3] [2 4]]"},
		{"AB!CD=@9", "A1B1C2D1C1D1", "[[0 1 3]]"},
		{"A!CB!CD=@0", "A1C0B1C0 D1A1C2B1C2D1", "[[5 7 9]]"},
	} {
		got, more := find(t, c.text, logOf(c.log))
		if fmt.Sprint(got) != c.want || more {
			t.Errorf("P10: %q in %q: %v, %t, want %s", c.text, c.log, got, more, c.want)
		}
	}
}

func TestFindAtTheEndsOfTime(t *testing.T) {
	widest := strconv.Itoa(api.MaxTime)
	at := func(first, last int) []api.Event {
		return []api.Event{{Ts: first, Kind: 'A', Val: -api.MaxTime}, {Ts: last, Kind: 'B', Val: api.MaxTime}}
	}
	one := [][]int{{0, 1}}
	finds(t, "AB@"+widest, at(-api.MaxTime, 0), one, false)
	finds(t, "AB@"+widest, at(-api.MaxTime, 1), nil, false)
	finds(t, "AB@"+widest, at(-api.MaxTime, api.MaxTime), nil, false)
	finds(t, "AB@"+widest, at(0, api.MaxTime), one, false)
	finds(t, "AB@"+widest, at(1, api.MaxTime+1), one, false) // one that was lifted
	finds(t, "AB@"+widest, at(0, api.MaxTime+1), nil, false)
	finds(t, "AB=@"+widest, at(0, 0), nil, false)
	finds(t, "AB@0", at(api.MaxTime, api.MaxTime), one, false)
}

func TestFindTellsNoMoreThanMaxMatches(t *testing.T) {
	for _, c := range []struct {
		text, log string
		count     int
		more      bool
		final     string
	}{
		{"A@0", strings.Repeat("A1", 99), 99, false, "[98]"},
		{"A@0", strings.Repeat("A1", 100), 100, false, "[99]"},
		{"A@0", strings.Repeat("A1", 101), 100, true, "[99]"},
		{"A@0", strings.Repeat("A1", 200), 100, true, "[99]"},
		{"A@0", strings.Repeat("A1", 100) + strings.Repeat("B1", 100), 100, false, "[99]"},
		{"A@0", strings.Repeat("A1", 100) + strings.Repeat("B1", 99) + "A1", 100, true, "[99]"},
		{"AB@0", strings.Repeat("A1", 100) + "B1", 100, false, "[99 100]"},
		{"AB@0", strings.Repeat("A1", 101) + "B1", 100, true, "[99 101]"},
		{"AB@0", strings.Repeat("A1", 50) + "B1B1", 100, false, "[49 51]"},
		{"AB@0", strings.Repeat("A1", 50) + "B1B1B1", 100, true, "[49 51]"},
		{"ABC@0", "A1" + strings.Repeat("B1", 100) + "C1", 100, false, "[0 100 101]"},
		{"ABC@0", "A1" + strings.Repeat("B1", 101) + "C1", 100, true, "[0 100 102]"},
		{"ABC@0", "A1B1" + strings.Repeat("C1", 100), 100, false, "[0 1 101]"},
		{"ABC@0", "A1B1" + strings.Repeat("C1", 101), 100, true, "[0 1 101]"},
		{"AAA@0", strings.Repeat("A1", 200), 100, true, "[2 3 9]"},
		{"A!AA!AA@0", strings.Repeat("A1", 102), 100, false, "[99 100 101]"},
		{"A!AA!AA@0", strings.Repeat("A1", 103), 100, true, "[99 100 101]"},
	} {
		got, more := find(t, c.text, logOf(c.log))
		if len(got) != c.count || more != c.more || fmt.Sprint(got[len(got)-1]) != c.final {
			t.Errorf("P10: %q in %.20q... of %d: %d matches, %t, the last of them %v", c.text, c.log, len(c.log)/2, len(got), more, got[len(got)-1])
		}
	}
}

func TestFindIsFresh(t *testing.T) {
	log := logOf("A1B1A2B2A1B1C1C2C1")
	p, _, _ := Read("A!CB!AC@9")
	kept := slices.Clone(log)
	first, _ := p.Find(log)
	second, _ := p.Find(log)
	want := fmt.Sprint(second)
	for i := range first {
		match := first[i][:cap(first[i])]
		for k := range match {
			match[k] = 77
		}
		if i+1 < len(first) && slices.Contains(first[i+1], 77) {
			t.Errorf("P2: the match %d is written into the next one", i)
		}
	}
	clear(first[:cap(first)])
	if fmt.Sprint(second) != want {
		t.Errorf("P2: %v became %v", want, second)
	}
	if third, _ := p.Find(log); fmt.Sprint(third) != want {
		t.Errorf("P2: %v became %v", want, third)
	}
	if !slices.Equal(log, kept) {
		t.Errorf("P2: the log became %v", log)
	}
}

func TestReadTellsNothingBesideAnError(t *testing.T) {
	for _, text := range []string{"A!BC=", "ABC@1x", "ABCD@1", "A@1099511627777", "AB@1" + strings.Repeat("0", api.MaxPattern)} {
		if p, err, _ := Read(text); err == api.OK || !reflect.DeepEqual(p, Pattern{}) {
			t.Errorf("P1: Read(%q) = %+v, %d", text, p, err)
		}
	}
}

var partsOf = regexp.MustCompile(`^([A-Z])(?:(?:!([A-Z]))?([A-Z]))?(?:(?:!([A-Z]))?([A-Z]))?(=?)@([0-9]+)$`)

// isMatch: the words of the document, at a rising list of places.
func isMatch(parts []string, log []api.Event, places []int) bool {
	kinds := []string{parts[1], parts[3], parts[5]}
	barred := []string{"", parts[2], parts[4]}
	same := parts[6] == "="
	window, _ := strconv.Atoi(parts[7])
	first, last := log[places[0]], log[places[len(places)-1]]
	if last.Ts > first.Ts+window {
		return false
	}
	for k, place := range places {
		e := log[place]
		if string(rune(e.Kind)) != kinds[k] || same && e.Val != first.Val {
			return false
		}
		if barred[k] == "" {
			continue
		}
		for _, between := range log[places[k-1]+1 : place] {
			if string(rune(between.Kind)) == barred[k] && (!same || between.Val == first.Val) {
				return false
			}
		}
	}
	return true
}

// allMatches tries every rising list of places.
func allMatches(text string, log []api.Event) [][]int {
	parts := partsOf.FindStringSubmatch(text)
	lists := [][]int{{}}
	for _, kind := range []string{parts[1], parts[3], parts[5]} {
		if kind == "" {
			continue
		}
		var longer [][]int
		for _, list := range lists {
			for place := range log {
				if len(list) == 0 || place > list[len(list)-1] {
					longer = append(longer, append(slices.Clone(list), place))
				}
			}
		}
		lists = longer
	}
	lists = slices.DeleteFunc(lists, func(places []int) bool { return !isMatch(parts, log, places) })
	slices.SortStableFunc(lists, func(a, b []int) int {
		return cmp.Or(cmp.Compare(a[len(a)-1], b[len(b)-1]), slices.Compare(a, b))
	})
	return lists
}

func findsAll(t *testing.T, text string, log []api.Event) {
	t.Helper()
	want := allMatches(text, log)
	finds(t, text, log, want[:min(len(want), api.MaxMatches)], len(want) > api.MaxMatches)
	if t.Failed() {
		t.FailNow()
	}
}

// someTexts: all patterns of few kinds.
func someTexts() []string {
	var texts []string
	steps := []string{"A", "B"}
	further := []string{"A", "B", "!AA", "!AB", "!BA", "!BB", "!CA"}
	for range api.MaxSteps {
		var longer []string
		for _, text := range steps {
			texts = append(texts, text+"@1", text+"=@1", text+"@9", text+"=@0")
			for _, more := range further {
				longer = append(longer, text+more)
			}
		}
		steps = longer
	}
	return texts
}

func TestFindInAllShortLogs(t *testing.T) {
	logs := []string{""}
	for range 4 {
		var longer []string
		for _, log := range logs {
			for _, more := range []string{"A1", "B1", "A2", " B2", " C1"} {
				longer = append(longer, log+more)
			}
		}
		for _, text := range someTexts() {
			for _, log := range longer {
				findsAll(t, text, logOf(log))
			}
		}
		logs = longer
	}
}

func TestFindInManyLogs(t *testing.T) {
	seed := uint64(1)
	below := func(n int) int {
		seed = seed*6364136223846793005 + 1442695040888963407
		return int(seed>>33) % n
	}
	texts := someTexts()
	for range 3000 {
		kinds, values, gap := 1+below(3), 1+below(3), 1+below(3)
		ts := -below(20)
		var log []api.Event
		for i := range below(26) {
			ts += below(gap)
			log = append(log, api.Event{Seq: i, Ts: ts, Kind: 'A' + below(kinds), Val: below(values) - 1})
		}
		findsAll(t, texts[below(len(texts))], log)
	}
}
