package check

import "cadence/tree"

func askNames(s scope, wrong report) {
	if _, twice := s.Called(s.Node.Name); twice {
		wrong(s.Node.Name.Place)
	}
	for i, v := range s.Node.Vars {
		if first, _ := s.Node.Find(v.Name.Text); first < i {
			wrong(v.Name.Place)
		}
		if v.On.Sign != tree.Always && !s.has(v.On.Of) {
			wrong(v.On.Of.Place)
		}
	}
	for _, q := range s.Node.Equations {
		for _, name := range q.Left {
			if !s.has(name) || s.Index(name) < s.Node.Inputs {
				wrong(name.Place)
			}
		}
	}
	s.Node.Walk(func(q tree.Equation, e *tree.Expr) bool {
		if e.NamesVariable() && !s.has(e.Name) {
			wrong(e.Name.Place)
		}
		if e.Kind == tree.Call && !s.fits(e, uses(q, e)) {
			wrong(e.Name.Place)
		}
		return true
	})
}

func (s scope) has(name tree.Name) bool {
	_, ok := s.Node.Find(name.Text)
	return ok
}

// uses tells how many outputs a call is used for.
func uses(q tree.Equation, e *tree.Expr) int {
	if e == q.Right {
		return len(q.Left)
	}
	return 1
}

func (s scope) fits(call *tree.Expr, outputs int) bool {
	called, ok := s.Called(call.Name)
	return ok && called.Node.Inputs == len(call.Args) && called.Node.Outputs == outputs
}
