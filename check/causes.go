package check

import "cadence/facts"

func askDefinitions(s scope, wrong report) {
	defined := make([]bool, len(s.Node.Vars))
	for _, q := range s.Node.Equations {
		for _, name := range q.Left {
			i := s.Index(name)
			if defined[i] {
				wrong(name.Place)
			}
			defined[i] = true
		}
	}
	for i, v := range s.Node.Vars {
		if i >= s.Node.Inputs && !defined[i] {
			wrong(v.Name.Place)
		}
	}
}

func askCauses(s scope, wrong report) {
	hangs := facts.LinksOf(s.Scope)
	hangs.Follow(len(s.Node.Vars))
	for i := range s.Node.Vars {
		if hangs.Has(i, i) {
			wrong(s.Node.Name.Place)
		}
	}
}
