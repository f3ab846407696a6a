// Package facts: what the passes know of a node beside its tree: what it may
// call, its clocks, and what hangs on what.
package facts

import "cadence/tree"

// Scope is a node and those that it may call.
type Scope struct {
	Earlier []*tree.Node
	Node    *tree.Node
}

// ScopeOf gives the scope of one of a program's nodes.
func ScopeOf(p *tree.Program, node int) Scope {
	return Scope{Earlier: p.Nodes[:node], Node: p.Nodes[node]}
}

// Called finds the node that a name calls.
func (s Scope) Called(name tree.Name) (Scope, bool) {
	for i, n := range s.Earlier {
		if n.Name.Text == name.Text {
			return Scope{Earlier: s.Earlier[:i], Node: n}, true
		}
	}
	return Scope{}, false
}

// Index finds a variable; only in the pass for names may there be none.
func (s Scope) Index(name tree.Name) int {
	i, _ := s.Node.Find(name.Text)
	return i
}
