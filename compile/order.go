package compile

import (
	"cadence/facts"
	"cadence/tree"
)

// inOrder gives the node's equations, each behind those of what it hangs on.
func inOrder(s facts.Scope) []tree.Equation {
	hangs := facts.LinksOf(s)
	placed := make([]bool, len(s.Node.Equations))
	var ordered []tree.Equation
	var place func(i int)
	place = func(i int) {
		if placed[i] {
			return
		}
		placed[i] = true
		q := s.Node.Equations[i]
		for j, other := range s.Node.Equations {
			if needs(s, hangs, q, other) {
				place(j)
			}
		}
		ordered = append(ordered, q)
	}
	for i := range s.Node.Equations {
		place(i)
	}
	return ordered
}

// needs tells whether q hangs on something that other defines. All that one
// equation defines hangs on the same, so the first name speaks for all.
func needs(s facts.Scope, hangs facts.Links, q, other tree.Equation) bool {
	for _, name := range other.Left {
		if hangs.Has(s.Index(q.Left[0]), s.Index(name)) {
			return true
		}
	}
	return false
}
