// Package read: from a program's text to its tree.
package read

import (
	"cadence/api"
	"cadence/fault"
	"cadence/tree"
)

// Program reads a program. The error tells what stops the text from being one,
// and where.
func Program(src string) (*tree.Program, error) {
	if len(src) > api.MaxSource {
		return nil, fault.In("reading", fault.At(fault.Long, 0))
	}
	p := parser{src: src, next: scan(src, 0)}
	program := p.program()
	if p.err != nil {
		return nil, fault.In("reading", p.err)
	}
	return program, nil
}

// parser reads with one token in sight. Behind the first error it sees only
// what is no token, so that all that is under way comes to its end by itself.
type parser struct {
	src   string
	next  token
	depth int // how many things are open
	err   error
}

func (p *parser) fail(kind error) {
	if p.err == nil {
		p.err = fault.At(kind, p.next.place)
	}
	p.next = token{kind: none, place: p.next.place}
}

func (p *parser) take() token {
	t := p.next
	p.next = scan(p.src, t.place+len(t.text))
	return t
}

func (p *parser) at(text string) bool {
	return p.next.kind == fixed && p.next.text == text
}

func (p *parser) skip(text string) bool {
	if !p.at(text) {
		return false
	}
	p.take()
	return true
}

// expect passes a token that must come, and tells its place.
func (p *parser) expect(text string) int {
	place := p.next.place
	if !p.skip(text) {
		p.fail(fault.Syntax)
	}
	return place
}

func (p *parser) name() tree.Name {
	if p.next.kind != name {
		p.fail(fault.Syntax)
		return tree.Name{}
	}
	t := p.take()
	return tree.Name{Text: t.text, Place: t.place}
}

func (p *parser) program() *tree.Program {
	program := &tree.Program{}
	for more := true; more; more = p.at("node") && len(program.Nodes) < api.MaxNodes {
		program.Nodes = append(program.Nodes, p.node())
	}
	if p.next.kind != end {
		p.fail(fault.Syntax)
	}
	return program
}

func (p *parser) node() *tree.Node {
	n := &tree.Node{}
	p.expect("node")
	n.Name = p.name()
	n.Inputs = p.params(n)
	p.expect("->")
	n.Outputs = p.params(n)
	if p.skip("var") {
		for more := true; more; more = p.next.kind == name {
			p.local(n)
		}
	}
	p.expect("{")
	for more := true; more; more = p.next.kind == name || p.at("(") {
		n.Equations = append(n.Equations, p.equation())
	}
	p.expect("}")
	return n
}

// params reads a list of variables into the node, and tells how many there are.
func (p *parser) params(n *tree.Node) int {
	before := len(n.Vars)
	p.expect("(")
	for more := true; more; more = p.skip(",") {
		n.Vars = append(n.Vars, p.declared(n))
	}
	p.expect(")")
	return len(n.Vars) - before
}

func (p *parser) local(n *tree.Node) {
	v := p.declared(n)
	if p.at("on") {
		v.On = p.on()
	}
	p.expect(";")
	n.Vars = append(n.Vars, v)
}

func (p *parser) declared(n *tree.Node) tree.Var {
	if len(n.Vars) == api.MaxVars {
		p.fail(fault.Syntax)
	}
	v := tree.Var{Name: p.name()}
	p.expect(":")
	if p.skip(tree.Bool.Word()) {
		v.Type = tree.Bool
	} else {
		p.expect(tree.Int.Word())
	}
	return v
}

func (p *parser) on() tree.On {
	o := tree.On{Sign: tree.OnTrue, Place: p.take().place}
	if p.skip("not") {
		o.Sign = tree.OnFalse
	}
	o.Of = p.name()
	return o
}

func (p *parser) equation() tree.Equation {
	var q tree.Equation
	if p.skip("(") {
		q.Left = append(q.Left, p.name())
		p.expect(",")
		for more := true; more; more = p.skip(",") {
			q.Left = append(q.Left, p.name())
		}
		p.expect(")")
		q.Place = p.expect("=")
		q.Right = p.call(p.name())
	} else {
		q.Left = append(q.Left, p.name())
		q.Place = p.expect("=")
		q.Right = p.expr()
	}
	p.expect(";")
	return q
}
