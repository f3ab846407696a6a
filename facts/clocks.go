package facts

import "cadence/tree"

// Clock tells at which instants of its node something is there: BASE is the
// zero clock.
type Clock struct {
	Variable int
	Sign     tree.Sign
}

// Clocks has, for each clock that a variable can give, the clock of that
// variable: the one which it is a part of.
type Clocks map[Clock]Clock

// ClocksOf reads the clocks from what is declared.
func ClocksOf(s Scope) Clocks {
	c := Clocks{}
	for i, v := range s.Node.Vars {
		own := Clock{}
		if v.On.Sign != tree.Always {
			own = Clock{Variable: s.Index(v.On.Of), Sign: v.On.Sign}
		}
		c[Clock{i, tree.OnTrue}] = own
		c[Clock{i, tree.OnFalse}] = own
	}
	return c
}

// Of gives the clock of a variable.
func (c Clocks) Of(variable int) Clock {
	return c[Clock{variable, tree.OnTrue}]
}

// ComesBack tells whether one who follows the clocks from a variable comes back to it.
func (c Clocks) ComesBack(variable int) bool {
	k := c.Of(variable)
	for range len(c) {
		if k == (Clock{}) {
			return false
		}
		if k.Variable == variable {
			return true
		}
		k = c[k]
	}
	return false
}

// Walk goes through e, which must be on the clock k, and what stands in it,
// and tells at each expr the clock that it must be on. What enter answers tells
// whether to go into the operands; leave comes behind them, gone into or not.
func (c Clocks) Walk(s Scope, e *tree.Expr, k Clock, enter func(e *tree.Expr, k Clock) bool, leave func(e *tree.Expr, k Clock)) {
	if enter(e, k) {
		for i, a := range e.Args {
			c.Walk(s, a, c.operand(s, e, i, k), enter, leave)
		}
	}
	leave(e, k)
}

// operand tells on which clock an operand of an expr on k must be.
func (c Clocks) operand(s Scope, e *tree.Expr, which int, k Clock) Clock {
	switch e.Kind {
	case tree.When, tree.Whenot:
		return c.Of(s.Index(e.Name))
	case tree.Merge:
		sign := tree.OnTrue
		if which > 0 {
			sign = tree.OnFalse
		}
		return Clock{s.Index(e.Name), sign}
	}
	return k
}
