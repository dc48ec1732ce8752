package patterns

import "funnel/api"

// search: the last place is settled ahead of all others, since the matches are ordered by it first.
type search struct {
	pattern Pattern
	log     []api.Event
	last    int
	least   int   // where the step ahead of the last one may stand, by what the last one bars
	places  []int // of the match that is being put together
	found   [][]int
	more    bool
}

// Find tells the first MaxMatches matches in a log, in their order, and whether there are more (P10).
func (p Pattern) Find(log []api.Event) ([][]int, bool) {
	steps := len(p.steps)
	if steps == 0 {
		return nil, false
	}
	s := search{pattern: p, log: log, places: make([]int, steps)}
	for last := 0; last < len(log) && !s.more; last++ {
		if log[last].Kind == p.steps[steps-1].kind {
			s.endAt(last)
		}
	}
	return s.found, s.more
}

func (s *search) endAt(last int) {
	final := len(s.places) - 1
	s.last = last
	s.places[final] = last
	s.least = s.nearestBarred(final)
	s.lay(0, 0)
}

// nearestBarred tells where, nearest ahead of the last place, something stands that the step k bars; else 0.
func (s *search) nearestBarred(k int) int {
	for place := s.last - 1; place > 0; place-- {
		if s.isBarred(k, place) {
			return place
		}
	}
	return 0
}

// lay tries the places from a place on for the step k, and behind each those of the steps behind it.
func (s *search) lay(k int, from int) {
	if k >= len(s.places)-1 {
		s.add()
		return
	}
	for place := from; place < s.last && !s.more; place++ {
		if s.fits(k, place) {
			s.places[k] = place
			s.lay(k+1, place+1)
		}
		if s.isBarred(k, place) {
			return
		}
	}
}

// fits leaves aside what the step k bars: lay has met nothing of it up to this place.
func (s *search) fits(k int, place int) bool {
	if s.log[place].Kind != s.pattern.steps[k].kind {
		return false
	}
	if k == 0 && s.log[s.last].Ts-s.log[place].Ts > s.pattern.window {
		return false
	}
	if k == len(s.places)-2 && place < s.least {
		return false
	}
	return s.counts(place)
}

func (s *search) isBarred(k int, place int) bool {
	return s.log[place].Kind == s.pattern.steps[k].barred && s.counts(place)
}

// counts: with "=" the pattern speaks of events with the last one's value alone.
func (s *search) counts(place int) bool {
	return !s.pattern.same || s.log[place].Val == s.log[s.last].Val
}

func (s *search) add() {
	if len(s.found) >= api.MaxMatches {
		s.more = true
		return
	}
	match := append([]int{}, s.places...)
	s.found = append(s.found, match)
}
