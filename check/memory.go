package check

import (
	"cadence/api"
	"cadence/tree"
)

func askMemory(p *tree.Program, wrong report) {
	cells := map[string]int{}
	last := 0
	for _, n := range p.Nodes {
		last = cellsOf(n, cells)
		cells[n.Name.Text] = last
	}
	if last > api.MaxMemory {
		wrong(0)
	}
}

// cellsOf counts what a node remembers, from what those it calls do. Past the
// bound the number no longer matters, and is kept from growing.
func cellsOf(n *tree.Node, cells map[string]int) int {
	count := 0
	n.Walk(func(_ tree.Equation, e *tree.Expr) bool {
		switch e.Kind {
		case tree.Fby:
			count++
		case tree.Call:
			count += 1 + cells[e.Name.Text]
		}
		return true
	})
	return min(count, api.MaxMemory+1)
}
