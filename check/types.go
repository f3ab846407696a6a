package check

import "cadence/tree"

func askTypes(s scope, wrong report) {
	for _, v := range s.Node.Vars {
		if v.On.Sign != tree.Always && s.declared(v.On.Of) != tree.Bool {
			wrong(v.On.Place)
		}
	}
	for _, q := range s.Node.Equations {
		if !s.holds(q) {
			wrong(q.Place)
		}
	}
	s.Node.Walk(func(_ tree.Equation, e *tree.Expr) bool {
		if samples(e) && s.declared(e.Name) != tree.Bool {
			wrong(e.Name.Place)
		}
		if !s.operandsFit(e) {
			wrong(e.Place)
		}
		return true
	})
}

// samples tells whether an expr names a variable that decides about its operands.
func samples(e *tree.Expr) bool {
	return e.NamesVariable() && e.Kind != tree.Variable
}

func (s scope) declared(name tree.Name) tree.Type {
	return s.Node.Vars[s.Index(name)].Type
}

// holds tells whether the two sides of an equation have the same types.
func (s scope) holds(q tree.Equation) bool {
	if len(q.Left) == 1 {
		return s.declared(q.Left[0]) == s.typeOf(q.Right)
	}
	called, _ := s.Called(q.Right.Name)
	for i, r := range called.Node.Results() {
		if s.declared(q.Left[i]) != r.Type {
			return false
		}
	}
	return true
}

// typeOf tells what an expr is, be its operands right or not.
func (s scope) typeOf(e *tree.Expr) tree.Type {
	switch e.Kind {
	case tree.Variable:
		return s.declared(e.Name)
	case tree.Call:
		called, _ := s.Called(e.Name)
		return called.Node.Results()[0].Type
	case tree.When, tree.Whenot, tree.Merge:
		return s.typeOf(e.Args[0])
	case tree.If, tree.Fby:
		return s.typeOf(e.Args[1])
	case tree.Number, tree.Negate,
		tree.Add, tree.Subtract, tree.Multiply, tree.Divide, tree.Remainder:
		return tree.Int
	}
	return tree.Bool
}

func (s scope) operandsFit(e *tree.Expr) bool {
	switch e.Kind {
	case tree.Negate, tree.Less, tree.LessEqual,
		tree.Add, tree.Subtract, tree.Multiply, tree.Divide, tree.Remainder:
		return s.all(tree.Int, e.Args)
	case tree.Not, tree.And, tree.Or, tree.Xor:
		return s.all(tree.Bool, e.Args)
	case tree.Equal, tree.Unequal, tree.Merge:
		return s.alike(e.Args)
	case tree.If:
		return s.all(tree.Bool, e.Args[:1]) && s.alike(e.Args[1:])
	case tree.Fby:
		return isConstant(e.Args[0]) && s.alike(e.Args)
	case tree.Call:
		return s.inputsFit(e)
	}
	return true
}

func (s scope) all(want tree.Type, args []*tree.Expr) bool {
	for _, a := range args {
		if s.typeOf(a) != want {
			return false
		}
	}
	return true
}

func (s scope) alike(args []*tree.Expr) bool {
	return s.typeOf(args[0]) == s.typeOf(args[1])
}

func (s scope) inputsFit(call *tree.Expr) bool {
	called, _ := s.Called(call.Name)
	for i, a := range call.Args {
		if s.typeOf(a) != called.Node.Vars[i].Type {
			return false
		}
	}
	return true
}

// isConstant tells whether a fby may begin with e.
func isConstant(e *tree.Expr) bool {
	switch e.Kind {
	case tree.Number, tree.True, tree.False:
		return true
	case tree.Negate:
		return e.Args[0].Kind == tree.Number
	}
	return false
}
