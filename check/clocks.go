package check

import (
	"cadence/facts"
	"cadence/tree"
)

func askClocks(s scope, wrong report) {
	c := facts.ClocksOf(s.Scope)
	for i, v := range s.Node.Vars {
		if c.ComesBack(i) {
			wrong(v.Name.Place)
		}
	}
	for _, q := range s.Node.Equations {
		k := c.Of(s.Index(q.Left[0]))
		for _, name := range q.Left[1:] {
			if c.Of(s.Index(name)) != k {
				wrong(name.Place)
			}
		}
		c.Walk(s.Scope, q.Right, k, s.isOn(c, wrong), func(*tree.Expr, facts.Clock) {})
	}
}

// isOn makes what asks at each expr whether it is on the clock that it must be
// on, and answers whether the operands are asked too.
func (s scope) isOn(c facts.Clocks, wrong report) func(e *tree.Expr, k facts.Clock) bool {
	return func(e *tree.Expr, k facts.Clock) bool {
		switch e.Kind {
		case tree.Variable, tree.Merge:
			if c.Of(s.Index(e.Name)) != k {
				wrong(e.Name.Place)
			}
		case tree.When, tree.Whenot:
			if k != (facts.Clock{Variable: s.Index(e.Name), Sign: signOf(e.Kind)}) {
				wrong(e.Place)
				return false
			}
		}
		return true
	}
}

func signOf(kind tree.Kind) tree.Sign {
	if kind == tree.Whenot {
		return tree.OnFalse
	}
	return tree.OnTrue
}
