package check

import "cadence/tree"

func askDefinitions(s scope, wrong report) {
	defined := make([]bool, len(s.node.Vars))
	for _, q := range s.node.Equations {
		for _, name := range q.Left {
			i := s.index(name)
			if defined[i] {
				wrong(name.Place)
			}
			defined[i] = true
		}
	}
	for i, v := range s.node.Vars {
		if i >= s.node.Inputs && !defined[i] {
			wrong(v.Name.Place)
		}
	}
}

// link says that one variable hangs on another.
type link struct {
	from, to int
}

type links map[link]struct{}

func (l links) add(from, to int) {
	l[link{from, to}] = struct{}{}
}

func (l links) has(from, to int) bool {
	_, ok := l[link{from, to}]
	return ok
}

func askCauses(s scope, wrong report) {
	hangs := linksOf(s)
	hangs.follow(len(s.node.Vars))
	for i := range s.node.Vars {
		if hangs.has(i, i) {
			wrong(s.node.Name.Place)
		}
	}
}

// linksOf tells what hangs on what by one equation.
func linksOf(s scope) links {
	hangs := links{}
	c := clocksOf(s)
	for _, q := range s.node.Equations {
		for _, name := range q.Left {
			i := s.index(name)
			if k := c.of(i); k.sign != tree.Always {
				hangs.add(i, k.variable)
			}
			tree.Walk(q.Right, func(e *tree.Expr) bool {
				if e.NamesVariable() {
					hangs.add(i, s.index(e.Name))
				}
				// The first operand is a constant by now: there is nothing in it to hang on.
				return e.Kind != tree.Fby
			})
		}
	}
	return hangs
}

// follow adds what hangs on what by way of others.
func (l links) follow(variables int) {
	for by := range variables {
		for from := range variables {
			for to := range variables {
				if l.has(from, by) && l.has(by, to) {
					l.add(from, to)
				}
			}
		}
	}
}
