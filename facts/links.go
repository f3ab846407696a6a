package facts

import "cadence/tree"

// Link says that one variable hangs on another.
type Link struct {
	From, To int
}

// Links is what hangs on what in a node.
type Links map[Link]struct{}

func (l Links) add(from, to int) {
	l[Link{from, to}] = struct{}{}
}

// Has tells whether one variable hangs on another.
func (l Links) Has(from, to int) bool {
	_, ok := l[Link{from, to}]
	return ok
}

// LinksOf tells what hangs on what by one equation.
func LinksOf(s Scope) Links {
	hangs := Links{}
	c := ClocksOf(s)
	for _, q := range s.Node.Equations {
		for _, name := range q.Left {
			i := s.Index(name)
			if k := c.Of(i); k.Sign != tree.Always {
				hangs.add(i, k.Variable)
			}
			tree.Walk(q.Right, func(e *tree.Expr) bool {
				if e.NamesVariable() {
					hangs.add(i, s.Index(e.Name))
				}
				// The first operand is a constant by now: there is nothing in it to hang on.
				return e.Kind != tree.Fby
			})
		}
	}
	return hangs
}

// Follow adds what hangs on what by way of others.
func (l Links) Follow(variables int) {
	for by := range variables {
		for from := range variables {
			for to := range variables {
				if l.Has(from, by) && l.Has(by, to) {
					l.add(from, to)
				}
			}
		}
	}
}
