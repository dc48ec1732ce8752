package funnel_test

import (
	"fmt"
	"math"
	"reflect"
	"strings"
	"testing"

	"funnel/api"
	"funnel/funnel"
)

func feeds(t *testing.T, x *funnel.Engine, s int, text string, good, refused, bad int) {
	t.Helper()
	want := api.Fed{Good: good, Refused: refused, Bad: bad}
	if fed, err := x.Feed(s, text); fed != want || err != api.OK {
		t.Errorf("P8: Feed(%d, %.60q) = %+v, %d, want %+v", s, text, fed, err, want)
	}
}

func TestFeedExample(t *testing.T) {
	x := engine(t, example, 0)
	feeds(t, x, 0, "E 0 5 A 1\nP 7\nE 1 x", 2, 0, 0)
	feeds(t, x, 0, "\n", 0, 0, 1)
	feeds(t, x, 0, "P 6\nE 0 9 A 1\n", 1, 1, 0)
	hasSource(t, x, 0, api.Source{In: true, Mark: 7, Last: 0})
	hasEvents(t, "P8: Log()", x.Log(), event(0, 0, 5, 'A', 1))
}

func TestFeedErrors(t *testing.T) {
	x := engine(t, example, 0)
	feeds(t, x, 0, "P 1", 0, 0, 0)
	long := strings.Repeat("\n", api.MaxChunk+1)
	for _, c := range []struct {
		s    int
		text string
		want api.Errno
	}{
		{-1, "", api.ErrSource}, {2, "P 1\n", api.ErrSource}, {math.MinInt, "", api.ErrSource}, {math.MaxInt, "x", api.ErrSource},
		{2, long[1:], api.ErrSource}, {2, long, api.ErrArg}, {-1, long, api.ErrArg}, {0, long, api.ErrArg}, {1, long, api.ErrArg},
		{0, strings.Repeat("P 9\n", 1<<20), api.ErrArg},
	} {
		keeps(t, x, "P8: Feed", func() api.Errno {
			fed, err := x.Feed(c.s, c.text)
			if fed != (api.Fed{}) {
				t.Errorf("P1: Feed(%d, %.20q) = %+v beside an error", c.s, c.text, fed)
			}
			return err
		}, c.want)
	}
	feeds(t, x, 0, "2\n", 1, 0, 0) // what had come ahead of the errors is still there
	hasMark(t, x, 12)
}

func TestFeedOfTheLongestChunk(t *testing.T) {
	x := engine(t, example, 0)
	feeds(t, x, 0, strings.Repeat("P 5\n", api.MaxChunk/4), api.MaxChunk/4, 0, 0)
	feeds(t, x, 1, strings.Repeat("\n", api.MaxChunk), 0, 0, api.MaxChunk)
	feeds(t, x, 0, "", 0, 0, 0)
	hasMark(t, x, 5)
}

func TestFeedNeedsNoSourceThatIsIn(t *testing.T) {
	x := engine(t, example)
	feeds(t, x, 0, "E 0 5 A 1\nP 7\nx\nP ", 0, 2, 1)
	answers(t, "P5: Join", x.Join(0), api.OK)
	feeds(t, x, 0, "1", 0, 0, 0)
	answers(t, "P5: Leave", x.Leave(0), api.OK)
	answers(t, "P5: Join", x.Join(0), api.OK)
	feeds(t, x, 0, "2\n", 1, 0, 0) // coming and going leaves the piece of a line as it is
	hasMark(t, x, 12)
}

func TestFeedKeepsTheSourcesApart(t *testing.T) {
	x, y := engine(t, example, 0, 1), engine(t, example, 0, 1)
	feeds(t, x, 0, "P 1", 0, 0, 0)
	feeds(t, x, 1, "P 2", 0, 0, 0)
	feeds(t, y, 0, "3\n", 0, 0, 1)
	feeds(t, x, 0, "4\n", 1, 0, 0)
	feeds(t, x, 1, "5\n", 1, 0, 0)
	hasSource(t, x, 0, api.Source{In: true, Mark: 14, Last: -1})
	hasSource(t, x, 1, api.Source{In: true, Mark: 25, Last: -1})
}

func TestFeedTakesLinesInTheirOrder(t *testing.T) {
	x := engine(t, example, 0)
	feeds(t, x, 0, "E 0 5 A 1\nE 2 6 B -2\nE 1 7 C 3\nP 6\nE 3 5 D 4\nP 20\nE 4 1 E 5\n", 6, 1, 0)
	hasEvents(t, "P8: Log()", x.Log(), event(0, 0, 5, 'A', 1), event(0, 2, 6, 'B', -2))
	hasEvents(t, "P8: Late()", x.Late(), event(0, 3, 5, 'D', 4), event(0, 4, 1, 'E', 5))
	hasSource(t, x, 0, api.Source{In: true, Mark: 20, Last: 4})
}

func TestFeedIsRefused(t *testing.T) {
	x := engine(t, example, 0)
	for i := range example.Room {
		feeds(t, x, 0, fmt.Sprintf("E %d 100 A 0\n", i), 1, 0, 0)
	}
	for _, line := range []string{
		"E 9 100 A 0",                // no room
		"E 3 100 A 0",                // a number of before
		"E -1 100 A 0",               // no number
		"E 1099511627777 100 A 0",    // no number
		"E 9 1099511627777 A 0",      // no time
		"E 9 -1099511627777 A 0",     // no time
		"E 9 100 A 1099511627777",    // no value
		"E 9 100 A -1099511627777",   // no value
		"E 9 9999999999999 A 0",      // no time
		"P 1099511627777",            // no time
		"P -1099511627777",           // no time
		"P -9999999999999",           // no time
		"E -9999999999999 0 Z 0",     // no number
		"E 9 0 Z 9999999999999",      // no value
		"E 0000000000009 00100 A -0", // no room
	} {
		ahead := stateOf(x)
		feeds(t, x, 0, line+"\n", 0, 1, 0)
		if behind := stateOf(x); !reflect.DeepEqual(ahead, behind) {
			t.Errorf("P8: %q changed %+v to %+v", line, ahead, behind)
		}
	}
}

func TestFeedOfLongLines(t *testing.T) {
	x := engine(t, example, 0)
	fits := "E 999999 -1099511627776 A -1099511627776"
	if len(fits) != api.MaxLine {
		t.Fatalf("%d bytes", len(fits))
	}
	feeds(t, x, 0, "E 0000999 0000000000000 A -0000000000000\n", 1, 0, 0)
	feeds(t, x, 0, "E 00001000 0000000000000 A -0000000000000\n", 0, 0, 1)
	feeds(t, x, 0, fits+"\n", 1, 0, 0)
	hasEvents(t, "P8: Late()", x.Late(), event(0, 999999, -most, 'A', -most))
	for _, n := range []int{api.MaxLine - 1, api.MaxLine, api.MaxLine + 1, api.MaxLine + 2, 256, api.MaxChunk} {
		feeds(t, x, 0, strings.Repeat("x", n), 0, 0, 0)
		feeds(t, x, 0, "\n", 0, 0, 1)
		// The end of a line that is too long is no line of its own.
		feeds(t, x, 0, strings.Repeat("x", n), 0, 0, 0)
		feeds(t, x, 0, "P 5\nP 6\n", 1, 0, 1)
		// Nor is its beginning.
		feeds(t, x, 0, "P 7", 0, 0, 0)
		feeds(t, x, 0, strings.Repeat(" ", n), 0, 0, 0)
		feeds(t, x, 0, "\n", 0, 0, 1)
	}
	hasMark(t, x, 6)
}

func TestFeedInPieces(t *testing.T) {
	text := "E 0 5 A 1\nP 7\nbad\n\nE 1 9 B -2\nE 1 9 B -2\n" + strings.Repeat("y", 90) + "\nP 20\nE 2 3 C 4\nP 21"
	whole := engine(t, example, 1)
	feeds(t, whole, 1, text, 5, 1, 3)
	for n := 1; n < len(text); n++ {
		x := engine(t, example, 1)
		sum := api.Fed{}
		for i := 0; i < len(text); i += n {
			fed, err := x.Feed(1, text[i:min(i+n, len(text))])
			answers(t, "P8: Feed", err, api.OK)
			sum = api.Fed{Good: sum.Good + fed.Good, Refused: sum.Refused + fed.Refused, Bad: sum.Bad + fed.Bad}
		}
		if sum != (api.Fed{Good: 5, Refused: 1, Bad: 3}) {
			t.Errorf("P8: in pieces of %d: %+v", n, sum)
		}
		if a, b := stateOf(x), stateOf(whole); !reflect.DeepEqual(a, b) {
			t.Errorf("P8: in pieces of %d: %+v, want %+v", n, a, b)
		}
	}
}

func TestFeedOfEveryByte(t *testing.T) {
	x := engine(t, example, 0)
	for b := range 256 {
		if b == '\n' {
			continue
		}
		feeds(t, x, 0, string([]byte{byte(b), '\n'}), 0, 0, 1)
		want := api.Fed{Bad: 1}
		if b >= '0' && b <= '9' {
			want = api.Fed{Good: 1}
		}
		if fed, err := x.Feed(0, "P 1"+string([]byte{byte(b), '\n'})); fed != want || err != api.OK {
			t.Errorf("P8: the byte %d behind a digit: %+v, %d", b, fed, err)
		}
	}
	hasMark(t, x, 19)
}
