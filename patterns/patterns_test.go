package patterns

import (
	"regexp"
	"strconv"
	"strings"
	"testing"

	"funnel/api"
)

func TestCheckTellsThePlaceOfTheFault(t *testing.T) {
	for _, c := range []struct {
		text string
		err  api.Errno
		at   int
	}{
		{"", api.OK, 0},
		{"A@0", api.OK, 0},
		{"A=@0", api.OK, 0},
		{"A!BC=@10", api.OK, 0},
		{"A!ZZ!AB=@1099511627776", api.OK, 0},
		{"A@0000000000000", api.OK, 0},
		{"A", api.ErrPattern, 1},
		{"AB", api.ErrPattern, 2},
		{"ABC", api.ErrPattern, 3},
		{"A!", api.ErrPattern, 2},
		{"A!B", api.ErrPattern, 3},
		{"A=", api.ErrPattern, 2},
		{"A@", api.ErrPattern, 2},
		{"!AB@1", api.ErrPattern, 0},
		{"@1", api.ErrPattern, 0},
		{"[@1", api.ErrPattern, 0},
		{"a@1", api.ErrPattern, 0},
		{"A!b", api.ErrPattern, 2},
		{"ABCD@1", api.ErrPattern, 3},
		{"ABC!DE@1", api.ErrPattern, 3},
		{"A!B@1", api.ErrPattern, 3},
		{"A=B@1", api.ErrPattern, 2},
		{"A@1x", api.ErrPattern, 3},
		{"A@1@", api.ErrPattern, 3},
		{"A@/", api.ErrPattern, 2},
		{"A@:", api.ErrPattern, 2},
		{"A@1099511627777", api.ErrPattern, 14},
		{"A@1099511627780", api.ErrPattern, 14},
		{"A@00000000000000", api.ErrPattern, 15},
		{"A@\xff", api.ErrPattern, 2},
		{"\u00c4@1", api.ErrPattern, 0},
		{strings.Repeat("A", api.MaxPattern), api.ErrPattern, api.MaxSteps},
		{strings.Repeat("A", api.MaxPattern+1), api.ErrArg, 0},
		{strings.Repeat("?", 1<<20), api.ErrArg, 0},
	} {
		if err, at := Check(c.text); err != c.err || at != c.at {
			t.Errorf("P3: Check(%.70q) = %d, %d, want %d, %d", c.text, err, at, c.err, c.at)
		}
	}
}

var whole = regexp.MustCompile(`^(?:[A-Z](?:(?:![A-Z])?[A-Z]){0,2}=?@([0-9]{1,13}))?$`)

// isPattern: the words of the document as an expression.
func isPattern(text string) bool {
	parts := whole.FindStringSubmatch(text)
	if parts == nil || strings.HasSuffix(text, "\n") {
		return false
	}
	window, err := strconv.Atoi("0" + parts[1])
	return err == nil && window <= api.MaxTime
}

// begins: whether some bytes behind text make it a pattern.
func begins(text string) bool {
	for _, rest := range []string{"", "0", "@0", "A@0", "AA@0"} {
		if isPattern(text + rest) {
			return true
		}
	}
	return false
}

func wanted(text string) (api.Errno, int) {
	if isPattern(text) {
		return api.OK, 0
	}
	for i := range len(text) {
		if !begins(text[:i+1]) {
			return api.ErrPattern, i
		}
	}
	return api.ErrPattern, len(text)
}

func compare(t *testing.T, text string) {
	t.Helper()
	wantErr, wantAt := wanted(text)
	if err, at := Check(text); err != wantErr || at != wantAt {
		t.Fatalf("P3: Check(%q) = %d, %d, want %d, %d", text, err, at, wantErr, wantAt)
	}
}

func TestCheckOfAllShortTexts(t *testing.T) {
	texts := []string{""}
	for range 6 {
		var longer []string
		for _, text := range texts {
			compare(t, text)
			for _, b := range "AZ!=@9" {
				longer = append(longer, text+string(b))
			}
		}
		texts = longer
	}
}

func TestCheckOfEachByteBehindEachBeginning(t *testing.T) {
	for _, text := range []string{"", "A", "AB", "ABC", "A!", "A!B", "A!BC", "A!BC!", "A!BC!D", "A!BC!DE", "A=", "A@", "A@1", "A@000000000000", "A@0000000000000", "A@109951162777", "A@109951162778", "A@1099511627776"} {
		for b := range 256 {
			compare(t, text+string([]byte{byte(b)}))
		}
	}
}
