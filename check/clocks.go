package check

import "cadence/tree"

// clock tells at which instants of its node something is there: BASE is the
// zero clock.
type clock struct {
	variable int
	sign     tree.Sign
}

// clocks has, for each clock that a variable can give, the clock of that
// variable: the one which it is a part of.
type clocks map[clock]clock

func clocksOf(s scope) clocks {
	c := clocks{}
	for i, v := range s.node.Vars {
		own := clock{}
		if v.On.Sign != tree.Always {
			own = clock{variable: s.index(v.On.Of), sign: v.On.Sign}
		}
		c[clock{i, tree.OnTrue}] = own
		c[clock{i, tree.OnFalse}] = own
	}
	return c
}

// of gives the clock of a variable.
func (c clocks) of(variable int) clock {
	return c[clock{variable, tree.OnTrue}]
}

// comesBack tells whether one who follows the clocks from a variable comes back to it.
func (c clocks) comesBack(variable int) bool {
	k := c.of(variable)
	for range len(c) {
		if k == (clock{}) {
			return false
		}
		if k.variable == variable {
			return true
		}
		k = c[k]
	}
	return false
}

func askClocks(s scope, wrong report) {
	c := clocksOf(s)
	for i, v := range s.node.Vars {
		if c.comesBack(i) {
			wrong(v.Name.Place)
		}
	}
	for _, q := range s.node.Equations {
		k := c.of(s.index(q.Left[0]))
		for _, name := range q.Left[1:] {
			if c.of(s.index(name)) != k {
				wrong(name.Place)
			}
		}
		tree.Walk(q.Right, c.on(k, s, wrong))
	}
}

// on makes what to do at each expr that must be on the clock k. Where the
// operands must be on another clock it sends out a walk of its own.
func (c clocks) on(k clock, s scope, wrong report) func(e *tree.Expr) bool {
	return func(e *tree.Expr) bool {
		switch e.Kind {
		case tree.Variable:
			if c.of(s.index(e.Name)) != k {
				wrong(e.Place)
			}
		case tree.When, tree.Whenot:
			if k != (clock{s.index(e.Name), signOf(e.Kind)}) {
				wrong(e.Place)
				return false
			}
			tree.Walk(e.Args[0], c.on(c[k], s, wrong))
			return false
		case tree.Merge:
			v := s.index(e.Name)
			if c.of(v) != k {
				wrong(e.Name.Place)
			}
			tree.Walk(e.Args[0], c.on(clock{v, tree.OnTrue}, s, wrong))
			tree.Walk(e.Args[1], c.on(clock{v, tree.OnFalse}, s, wrong))
			return false
		}
		return true
	}
}

func signOf(kind tree.Kind) tree.Sign {
	if kind == tree.Whenot {
		return tree.OnFalse
	}
	return tree.OnTrue
}
