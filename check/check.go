// Package check: what is wrong with a program that could be read.
package check

import (
	"cadence/facts"
	"cadence/fault"
	"cadence/tree"
)

// report is told each place at which something is wrong.
type report func(place int)

// pass asks for one kind of fault.
type pass struct {
	name string
	kind error
	ask  func(p *tree.Program, wrong report)
}

// Program tells what is wrong with a program, or nil. Each pass relies on
// what those ahead of it have found to be right.
func Program(p *tree.Program) error {
	passes := []pass{
		{"names", fault.Name, eachNode(askNames)},
		{"types", fault.Type, eachNode(askTypes)},
		{"clocks", fault.Clock, eachNode(askClocks)},
		{"definitions", fault.Define, eachNode(askDefinitions)},
		{"causes", fault.Cause, eachNode(askCauses)},
		{"memory", fault.Limit, askMemory},
	}
	for _, s := range passes {
		if err := s.run(p); err != nil {
			return fault.In(s.name, err)
		}
	}
	return nil
}

// run gives the fault of the pass that has the least place.
func (s pass) run(p *tree.Program) error {
	var least error
	best := 0
	s.ask(p, func(place int) {
		if least == nil || place < best {
			least, best = fault.At(s.kind, place), place
		}
	})
	return least
}

// scope is what is asked of one node.
type scope struct {
	facts.Scope
}

func eachNode(ask func(s scope, wrong report)) func(p *tree.Program, wrong report) {
	return func(p *tree.Program, wrong report) {
		for i := range p.Nodes {
			ask(scope{facts.ScopeOf(p, i)}, wrong)
		}
	}
}
