package funnel

import (
	"strings"
	"testing"

	"funnel/api"
)

// What an engine keeps does not grow with what it was told.
func TestKeepsNoMoreThanItNeeds(t *testing.T) {
	x, _ := New(api.Config{Sources: 1, Room: 1, Pattern: "A@0"})
	if x.config.Pattern != "" {
		t.Errorf("the text %q of a pattern", x.config.Pattern)
	}
	x.Join(0)
	for range 100 {
		x.Feed(0, strings.Repeat("x", api.MaxChunk))
		x.Tick(api.MaxIdle)
	}
	if k := x.sources[0]; len(k.line) > api.MaxLine+1 || k.silence > api.MaxIdle {
		t.Errorf("%d bytes of a line, a silence of %d", len(k.line), k.silence)
	}
	x.Feed(0, "\n")
	if k := x.sources[0]; len(k.line) != 0 {
		t.Errorf("%d bytes of a line that is whole", len(k.line))
	}
}
