package lines

import (
	"regexp"
	"strconv"
	"strings"
	"testing"

	"funnel/api"
)

func push(seq, ts int, kind byte, val int) Line {
	return Line{Asks: Push, Event: api.Event{Seq: seq, Ts: ts, Kind: int(kind), Val: val}}
}

func TestGoodLines(t *testing.T) {
	for text, want := range map[string]Line{
		"E 0 5 A 1":                {Asks: Push, Event: api.Event{Ts: 5, Kind: 'A', Val: 1}},
		"E 12 -34 Z -56":           push(12, -34, 'Z', -56),
		"E -1 -0 M 007":            push(-1, 0, 'M', 7),
		"E 9999999999999 0 A 0":    push(9999999999999, 0, 'A', 0),
		"E 0 -9999999999999 A 0":   push(0, -9999999999999, 'A', 0),
		"E 0 0 A 9999999999999":    push(0, 0, 'A', 9999999999999),
		"E 0000000000001 002 A -0": push(1, 2, 'A', 0),
		"P 7":                      {Asks: Punct, Ts: 7},
		"P 0":                      {Asks: Punct},
		"P -0":                     {Asks: Punct},
		"P -12":                    {Asks: Punct, Ts: -12},
		"P 9999999999999":          {Asks: Punct, Ts: 9999999999999},
		"P -9999999999999":         {Asks: Punct, Ts: -9999999999999},
		"P 0000000000009":          {Asks: Punct, Ts: 9},
		"E 999999 -1099511627776 A -1099511627776": push(999999, -1<<40, 'A', -1<<40),
	} {
		if line := Read(text); line != want {
			t.Errorf("P8: Read(%q) = %+v, want %+v", text, line, want)
		}
	}
}

func TestBadLines(t *testing.T) {
	for _, text := range []string{
		"", " ", "E", "P", "E ", "P ", "X", "X 1", "EP", "PE", "P9", "p 9", "e 1 9 A 1", "PP 9", "EE 1 9 A 1", "E1 9 A 1",
		"P  9", " P 9", "P 9 ", "P\t9", "P 9\r", "P 9\n", "P 9\x00", "\x00P 9", "P\x009", "P 9 9", "P 9a", "P a9", "P x", "P +9", "P --9", "P -", "P - 9", "P 9-", "P 1-1", "P 0x9", "P 1_0", "P 1.0", "P 1e1",
		"P 00000000000000", "P -00000000000000", "P 10000000000000", "P 99999999999999999999",
		"E 1 9 A", "E 1 9 A ", "E 1 9", "E 1", "E 1 9 A 1 2", "E 1 9 A 1 ", " E 1 9 A 1", "E  1 9 A 1", "E 1  9 A 1", "E 1 9  A 1", "E 1 9 A  1", "E 1 9  1",
		"E 1 9 AA 1", "E 1 9 a 1", "E 1 9 @ 1", "E 1 9 [ 1", "E 1 9 9 1", "E 1 9 \u00c4 1", "E 1 9 -A 1",
		"E x 9 A 1", "E 1 x A 1", "E 1 9 A x", "E - 9 A 1", "E 1 - A 1", "E 1 9 A -", "E 1 9A 1", "E 1 9 A1", "E 19 A 1",
		"E 00000000000001 9 A 1", "E 1 00000000000009 A 1", "E 1 9 A 00000000000001",
		"E 9999999 -1099511627776 A -1099511627776", strings.Repeat("P", api.MaxLine), strings.Repeat("9", api.MaxLine+1), strings.Repeat("x", 1<<20),
	} {
		if line := Read(text); line != (Line{}) {
			t.Errorf("P8: Read(%.60q) = %+v, want a bad one", text, line)
		}
	}
}

var (
	pushForm  = regexp.MustCompile(`^E (-?[0-9]{1,13}) (-?[0-9]{1,13}) ([A-Z]) (-?[0-9]{1,13})$`)
	punctForm = regexp.MustCompile(`^P (-?[0-9]{1,13})$`)
)

func number(text string) int {
	n, _ := strconv.Atoi(text)
	return n
}

// plain: the document's words, as expressions.
func plain(text string) Line {
	if len(text) > api.MaxLine {
		return Line{}
	}
	if part := pushForm.FindStringSubmatch(text); part != nil {
		return push(number(part[1]), number(part[2]), part[3][0], number(part[4]))
	}
	if part := punctForm.FindStringSubmatch(text); part != nil {
		return Line{Asks: Punct, Ts: number(part[1])}
	}
	return Line{}
}

func agrees(t *testing.T, text string) {
	t.Helper()
	if line, want := Read(text), plain(text); line != want {
		t.Errorf("P8: Read(%q) = %+v, want %+v", text, line, want)
	}
}

// tryAll puts each of the bytes at each place, up to a length.
func tryAll(t *testing.T, text, bytes string, left int) {
	agrees(t, text)
	if left == 0 {
		return
	}
	for i := range len(bytes) {
		tryAll(t, text+bytes[i:i+1], bytes, left-1)
	}
}

func TestAllShortLines(t *testing.T) {
	tryAll(t, "", "EPA 09-\x00", 5)
	tryAll(t, "E 1 ", "A 1-", 7)
	tryAll(t, "E 1 2", "A 1-", 6)
}

func TestOneByteOff(t *testing.T) {
	for _, text := range []string{
		"E 0 5 A 1", "E -12 -34 Z -56", "P 7", "P -12", "P 0000000000009", "P -9999999999999",
		"E 9999999999999 -999999999999 A 00000000", "E 1 -1099511627776 A -1099511627776",
	} {
		for i := range len(text) + 1 {
			for b := range 256 {
				agrees(t, text[:i]+string([]byte{byte(b)})+text[i:])
				if i < len(text) {
					agrees(t, text[:i]+string([]byte{byte(b)})+text[i+1:])
				}
			}
			agrees(t, text[:i])
			agrees(t, text[i:])
			agrees(t, text[:i]+text[min(i+1, len(text)):])
		}
	}
}
