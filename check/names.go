package check

import "cadence/tree"

func askNames(s scope, wrong report) {
	if _, twice := s.called(s.node.Name); twice {
		wrong(s.node.Name.Place)
	}
	for i, v := range s.node.Vars {
		if first, _ := s.node.Find(v.Name.Text); first < i {
			wrong(v.Name.Place)
		}
		if v.On.Sign != tree.Always && !s.has(v.On.Of) {
			wrong(v.On.Of.Place)
		}
	}
	for _, q := range s.node.Equations {
		for _, name := range q.Left {
			if !s.has(name) || s.index(name) < s.node.Inputs {
				wrong(name.Place)
			}
		}
	}
	s.node.Walk(func(q tree.Equation, e *tree.Expr) bool {
		if e.NamesVariable() && !s.has(e.Name) {
			wrong(e.Name.Place)
		}
		if e.Kind == tree.Call && !s.fits(e, uses(q, e)) {
			wrong(e.Name.Place)
		}
		return true
	})
}

func (s scope) has(name tree.Name) bool {
	_, ok := s.node.Find(name.Text)
	return ok
}

// uses tells how many outputs a call is used for.
func uses(q tree.Equation, e *tree.Expr) int {
	if e == q.Right {
		return len(q.Left)
	}
	return 1
}

func (s scope) fits(call *tree.Expr, outputs int) bool {
	n, ok := s.called(call.Name)
	return ok && n.Inputs == len(call.Args) && n.Outputs == outputs
}
