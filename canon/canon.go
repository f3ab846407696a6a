// Package canon: the canonical text of a program.
package canon

import (
	"strconv"
	"strings"

	"cadence/tree"
)

// Text is the canonical text: a line for each node.
func Text(p *tree.Program) string {
	var b strings.Builder
	for _, n := range p.Nodes {
		var l line
		l.node(n)
		b.WriteString(strings.Join(l.tokens, " "))
		b.WriteByte('\n')
	}
	return b.String()
}

type line struct {
	tokens []string
}

func (l *line) add(tokens ...string) {
	l.tokens = append(l.tokens, tokens...)
}

// list writes so many things with commas between them, in parentheses.
func (l *line) list(many int, write func(i int)) {
	l.add("(")
	for i := range many {
		if i > 0 {
			l.add(",")
		}
		write(i)
	}
	l.add(")")
}

func (l *line) node(n *tree.Node) {
	results := n.Results()
	locals := n.Vars[n.Inputs+n.Outputs:]
	l.add("node", n.Name.Text)
	l.list(n.Inputs, func(i int) { l.declared(n.Vars[i]) })
	l.add("->")
	l.list(len(results), func(i int) { l.declared(results[i]) })
	if len(locals) > 0 {
		l.add("var")
	}
	for _, v := range locals {
		l.local(v)
	}
	l.add("{")
	for _, q := range n.Equations {
		l.equation(q)
	}
	l.add("}")
}

func (l *line) declared(v tree.Var) {
	l.add(v.Name.Text, ":", v.Type.Word())
}

func (l *line) local(v tree.Var) {
	l.declared(v)
	switch v.On.Sign {
	case tree.OnTrue:
		l.add("on", v.On.Of.Text)
	case tree.OnFalse:
		l.add("on", "not", v.On.Of.Text)
	}
	l.add(";")
}

func (l *line) equation(q tree.Equation) {
	if len(q.Left) == 1 {
		l.add(q.Left[0].Text)
	} else {
		l.list(len(q.Left), func(i int) { l.add(q.Left[i].Text) })
	}
	l.add("=")
	l.expr(q.Right)
	l.add(";")
}

func (l *line) expr(e *tree.Expr) {
	switch e.Kind {
	case tree.Number:
		l.add(strconv.FormatInt(e.Value, 10))
	case tree.True, tree.False:
		l.add(e.Kind.Word())
	case tree.Variable:
		l.add(e.Name.Text)
	case tree.Call:
		l.add(e.Name.Text)
		l.list(len(e.Args), func(i int) { l.expr(e.Args[i]) })
	default:
		l.add("(")
		l.operation(e)
		l.add(")")
	}
}

func (l *line) operation(e *tree.Expr) {
	switch e.Kind {
	case tree.If:
		l.add("if")
		l.expr(e.Args[0])
		l.add("then")
		l.expr(e.Args[1])
		l.add("else")
		l.expr(e.Args[2])
	case tree.Merge:
		l.add("merge", e.Name.Text)
		l.side(e.Args[0])
		l.side(e.Args[1])
	case tree.When, tree.Whenot:
		l.expr(e.Args[0])
		l.add(e.Kind.Word(), e.Name.Text)
	case tree.Negate, tree.Not:
		l.add(e.Kind.Word())
		l.expr(e.Args[0])
	default:
		l.expr(e.Args[0])
		l.add(e.Kind.Word())
		l.expr(e.Args[1])
	}
}

// side puts a call in parentheses, because its name alone would be read as the side.
func (l *line) side(e *tree.Expr) {
	if e.Kind != tree.Call {
		l.expr(e)
		return
	}
	l.add("(")
	l.expr(e)
	l.add(")")
}
