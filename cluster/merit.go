package cluster

import (
	"cmp"
	"slices"

	"foliot/api"
	"foliot/fixed"
)

// stratumCost: by how much each stratum makes the merit worse.
const stratumCost = api.Second * 3 / 2

// rated is a candidate, and its merit beside.
type rated struct {
	api.Cand
	merit api.Span
}

func rate(c api.Cand) rated {
	return rated{Cand: c, merit: fixed.Add(c.Dist, fixed.Scale(stratumCost, c.Stratum, 1))}
}

// bestByMerit is the first of l by merit, as many as most, in new memory.
func bestByMerit(l []api.Cand, most int) []api.Cand {
	all := make([]rated, len(l))
	for i, c := range l {
		all[i] = rate(c)
	}
	// Stable, as of the same merit and ID the one ahead is better.
	slices.SortStableFunc(all, func(a, b rated) int {
		return cmp.Or(cmp.Compare(a.merit, b.merit), cmp.Compare(a.ID, b.ID))
	})
	var best []api.Cand
	for _, r := range all[:min(len(all), most)] {
		best = append(best, r.Cand)
	}
	return best
}
