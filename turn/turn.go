// Package turn is what a build by one and a build by several have in common: what a node comes to when it is its turn, and how its trace is put.
package turn

import (
	"tephra/api"
	"tephra/digest"
	"tephra/dirty"
	"tephra/fold"
	"tephra/graph"
	"tephra/rule"
	"tephra/store"
)

// clean is layer 23's number of a node whose trace answers for it.
const clean = 0

// timeless is the version at which traces have no time.
const timeless = 1

// Turn is what a node comes to: its step, layer 23's number of why, and, if it was run, its trace.
type Turn struct {
	Step  api.Step
	Why   int
	Trace api.Record
}

// Order is the order of a graph that a store is to be asked about, unless the one or the other is refused.
func Order(s *store.Store, l []api.Node) ([]int, api.Errno) {
	if s == nil {
		return nil, api.ErrArg
	}
	if s.Over() {
		return nil, api.ErrDown
	}
	return graph.Order(l)
}

// Of is what a node comes to at a time, by the contents of its Deps, in order.
func Of(n api.Node, deps []uint64, state []api.Record, given []api.Step, when uint64) Turn {
	if n.Source {
		return Turn{Step: api.Step{Name: n.Name, Contents: rule.Given(given, n.Name)}}
	}
	hashes := dirty.Hashes(deps)
	why := dirty.Why(n, state, hashes)
	if why == clean {
		trace, _ := fold.Find(state, n.Name)
		return Turn{Step: api.Step{Name: n.Name, Contents: digest.Back(trace.Out)}}
	}
	contents := rule.Run(n, deps)
	// There is a digest of each Dep, so that it isn't refused.
	trace, _ := dirty.Trace(n, hashes, contents, when)
	return Turn{Step: api.Step{Name: n.Name, Ran: true, Contents: contents}, Why: why, Trace: trace}
}

// Put puts the trace of a node that was run into a store.
func Put(s *store.Store, trace api.Record) api.Errno {
	if s.Version() == timeless {
		trace.When = 0
	}
	return s.Put(trace)
}

// Steps are those of turns.
func Steps(turns []Turn) []api.Step {
	var steps []api.Step
	for _, t := range turns {
		steps = append(steps, t.Step)
	}
	return steps
}
