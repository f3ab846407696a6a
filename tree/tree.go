// Package tree: what a program is made of, once it has been read.
package tree

// Type is what the values of a stream are.
type Type int

const (
	Int Type = iota
	Bool
)

// Sign tells at which values of its clock's variable something is there.
type Sign int

const (
	Always Sign = iota // no variable is asked
	OnTrue
	OnFalse
)

// Name is a name where it stands in the text.
type Name struct {
	Text  string
	Place int
}

// Program has its nodes in their order; the last one is the main one.
type Program struct {
	Nodes []*Node
}

// Node has its inputs, outputs and locals in one row, because names are asked of all of them.
type Node struct {
	Name      Name
	Vars      []Var
	Inputs    int // the first so many of Vars
	Outputs   int // so many behind the inputs
	Equations []Equation
}

// Var is a variable as it is declared.
type Var struct {
	Name Name
	Type Type
	On   On
}

// On is what a variable is declared to be slower by.
type On struct {
	Sign  Sign
	Place int // of the keyword
	Of    Name
}

// Equation defines one variable, or by a call several.
type Equation struct {
	Left  []Name
	Place int // of the sign =
	Right *Expr
}

// Expr is an expr; parentheses leave nothing behind in it.
type Expr struct {
	Kind  Kind
	Place int   // of the sign or keyword that makes it, or else of its first token
	Name  Name  // the variable, the node called, or the variable behind when, whenot, merge
	Value int64 // of a number
	Args  []*Expr
}

// Find tells which of the node's variables has that name: the first one.
func (n *Node) Find(name string) (int, bool) {
	for i, v := range n.Vars {
		if v.Name.Text == name {
			return i, true
		}
	}
	return 0, false
}

// Results gives the node's outputs.
func (n *Node) Results() []Var {
	return n.Vars[n.Inputs : n.Inputs+n.Outputs]
}

// NamesVariable tells whether the expr's name is that of a variable.
func (e *Expr) NamesVariable() bool {
	switch e.Kind {
	case Variable, When, Whenot, Merge:
		return true
	}
	return false
}

// Walk goes through e and what stands in it, from the outside in. What visit
// answers tells whether to go on into the operands.
func Walk(e *Expr, visit func(e *Expr) bool) {
	if !visit(e) {
		return
	}
	for _, a := range e.Args {
		Walk(a, visit)
	}
}

// Walk goes through all exprs of the node's equations.
func (n *Node) Walk(visit func(q Equation, e *Expr) bool) {
	for _, q := range n.Equations {
		Walk(q.Right, func(e *Expr) bool { return visit(q, e) })
	}
}
