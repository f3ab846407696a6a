package read

import (
	"cadence/api"
	"cadence/fault"
	"cadence/tree"
)

// open takes the token with which a thing is open, and holds the thing open
// while what is in it is read.
func (p *parser) open(inside func()) {
	if p.depth == api.MaxDepth {
		p.fail(fault.Deep)
		return
	}
	p.depth++
	p.take()
	inside()
	p.depth--
}

// begin makes an expr whose place is that of the next token.
func (p *parser) begin(kind tree.Kind) *tree.Expr {
	return &tree.Expr{Kind: kind, Place: p.next.place}
}

func (p *parser) expr() *tree.Expr {
	first := p.either()
	if !p.at("fby") {
		return first
	}
	e := p.begin(tree.Fby)
	p.open(func() { e.Args = []*tree.Expr{first, p.expr()} })
	return e
}

func (p *parser) either() *tree.Expr {
	return p.row(p.both, tree.Or, tree.Xor)
}

func (p *parser) both() *tree.Expr {
	return p.row(p.test, tree.And)
}

func (p *parser) test() *tree.Expr {
	left := p.sum()
	kind, ok := p.operator(tree.Equal, tree.Unequal, tree.Less, tree.LessEqual)
	if !ok {
		return left
	}
	return p.behind(left, kind, p.sum)
}

func (p *parser) sum() *tree.Expr {
	return p.row(p.product, tree.Add, tree.Subtract)
}

func (p *parser) product() *tree.Expr {
	return p.row(p.unary, tree.Multiply, tree.Divide, tree.Remainder)
}

// row reads parts with operators between them; the first two belong together first.
func (p *parser) row(part func() *tree.Expr, kinds ...tree.Kind) *tree.Expr {
	left := part()
	for {
		kind, ok := p.operator(kinds...)
		if !ok {
			return left
		}
		left = p.behind(left, kind, part)
	}
}

// operator tells which of these kinds the next token makes, if any.
func (p *parser) operator(kinds ...tree.Kind) (tree.Kind, bool) {
	for _, k := range kinds {
		if p.at(k.Word()) {
			return k, true
		}
	}
	return 0, false
}

// behind reads an operator and the part behind it.
func (p *parser) behind(left *tree.Expr, kind tree.Kind, part func() *tree.Expr) *tree.Expr {
	e := p.begin(kind)
	p.take()
	e.Args = []*tree.Expr{left, part()}
	return e
}

func (p *parser) unary() *tree.Expr {
	kind, ok := p.operator(tree.Negate, tree.Not)
	if !ok {
		return p.sampled()
	}
	e := p.begin(kind)
	p.open(func() { e.Args = []*tree.Expr{p.unary()} })
	return e
}

func (p *parser) sampled() *tree.Expr {
	e := p.atom()
	for {
		kind, ok := p.operator(tree.When, tree.Whenot)
		if !ok {
			return e
		}
		place := p.take().place
		e = &tree.Expr{Kind: kind, Place: place, Name: p.name(), Args: []*tree.Expr{e}}
	}
}

func (p *parser) atom() *tree.Expr {
	if p.next.kind != name {
		return p.unnamed()
	}
	n := p.name()
	if p.at("(") {
		return p.call(n)
	}
	return variable(n)
}

// side is an atom, but a name is a variable whatever follows it.
func (p *parser) side() *tree.Expr {
	if p.next.kind != name {
		return p.unnamed()
	}
	return variable(p.name())
}

func variable(n tree.Name) *tree.Expr {
	return &tree.Expr{Kind: tree.Variable, Place: n.Place, Name: n}
}

func (p *parser) call(n tree.Name) *tree.Expr {
	e := &tree.Expr{Kind: tree.Call, Place: n.Place, Name: n}
	if !p.at("(") {
		p.fail(fault.Syntax)
		return e
	}
	p.open(func() {
		for more := true; more; more = p.skip(",") {
			e.Args = append(e.Args, p.expr())
		}
		p.expect(")")
	})
	return e
}

// unnamed reads an atom that does not begin with a name.
func (p *parser) unnamed() *tree.Expr {
	if p.next.kind == number {
		e := p.begin(tree.Number)
		e.Value = p.take().value
		return e
	}
	if kind, ok := p.operator(tree.True, tree.False); ok {
		e := p.begin(kind)
		p.take()
		return e
	}
	switch {
	case p.at("("):
		return p.parenthesis()
	case p.at("if"):
		return p.choice()
	case p.at("merge"):
		return p.merge()
	}
	p.fail(fault.Syntax)
	return p.begin(tree.Number)
}

func (p *parser) parenthesis() *tree.Expr {
	var e *tree.Expr
	p.open(func() {
		e = p.expr()
		p.expect(")")
	})
	return e
}

func (p *parser) choice() *tree.Expr {
	e := p.begin(tree.If)
	p.open(func() {
		asked := p.expr()
		p.expect("then")
		yes := p.expr()
		p.expect("else")
		e.Args = []*tree.Expr{asked, yes, p.expr()}
	})
	return e
}

func (p *parser) merge() *tree.Expr {
	e := p.begin(tree.Merge)
	p.open(func() {
		e.Name = p.name()
		yes := p.side()
		e.Args = []*tree.Expr{yes, p.side()}
	})
	return e
}
