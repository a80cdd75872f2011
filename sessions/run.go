package sessions

import (
	"precept/api"
	"precept/cells"
	"precept/matching"
	"precept/ruleset"
)

// Run fires the first open instantiation, again and again, but not more than
// fuel says. It tells how many were fired, and why it ended. The versions that
// the cells have at the snapshot are handed in.
func (s *Session) Run(rules []ruleset.Rule, versions [cells.Count]cells.Version, fuel int) (int, int) {
	for fired := 0; fired < fuel; fired++ {
		next, found := s.first(rules, versions)
		if !found {
			return fired, api.Still
		}
		outcome, ok := matching.WorkOut(rules, next)
		if !ok {
			return fired, api.Wrong
		}
		s.fire(next, outcome.Effects)
		if outcome.Halts {
			return fired + 1, api.Halted
		}
	}
	_, found := s.first(rules, versions)
	if !found {
		return fuel, api.Still
	}
	return fuel, api.Spent
}

// first is the first open instantiation, if there is one.
func (s *Session) first(rules []ruleset.Rule, versions [cells.Count]cells.Version) (matching.Instantiation, bool) {
	facts := s.Sees(versions)
	return matching.First(rules, facts, &s.Fired)
}

// fire remembers an instantiation with the times that its facts have ahead of
// its effects, which may write to their cells.
func (s *Session) fire(n matching.Instantiation, effects []matching.Effect) {
	s.Fired.Add(n)
	for _, effect := range effects {
		s.record(effect.Cell, effect.State)
	}
}
