package crew

import (
	"slices"
	"sync"

	"tephra/api"
	"tephra/turn"
)

// task is a node that is sent out: its place, and the contents of its Deps.
type task struct {
	at   int
	node api.Node
	deps []uint64
}

// result is what the node at a place came to.
type result struct {
	at   int
	turn turn.Turn
}

// finder finds out what a node comes to by the contents of its Deps. It is asked by all workers at the same time, so it writes nothing that others read.
type finder func(n api.Node, deps []uint64) turn.Turn

// foundOut are the turns of nodes that stand in their graph's order, found out by that many workers.
func foundOut(nodes []api.Node, workers int, find finder) []turn.Turn {
	tasks, results := make(chan task), make(chan result)
	var all sync.WaitGroup
	all.Add(workers)
	for range workers {
		go func() {
			defer all.Done()
			work(find, tasks, results)
		}()
	}
	turns := newBoard(nodes).turnsBy(tasks, results)
	close(tasks)
	all.Wait()
	return turns
}

// work finds out task by task what it comes to, as long as there are any.
func work(find finder, tasks <-chan task, results chan<- result) {
	for t := range tasks {
		results <- result{at: t.at, turn: find(t.node, t.deps)}
	}
}

// board is what the one who sends nodes out knows of them. Nobody else reads or writes it.
type board struct {
	nodes  []api.Node
	unsent []int
	known  map[string]uint64
	turns  []turn.Turn
}

// newBoard is a board of nodes none of which is sent out yet.
func newBoard(nodes []api.Node) *board {
	b := &board{nodes: nodes, known: map[string]uint64{}, turns: make([]turn.Turn, len(nodes))}
	for at := range nodes {
		b.unsent = append(b.unsent, at)
	}
	return b
}

// turnsBy sends each node out as soon as all of its Deps are known, and takes in what they come to; it is that, node by node.
func (b *board) turnsBy(tasks chan<- task, results <-chan result) []turn.Turn {
	for len(b.known) < len(b.nodes) {
		// Where none is ready this stays nil, and nothing is sent.
		var out chan<- task
		next, ready := b.next()
		if ready {
			out = tasks
		}
		select {
		case out <- next:
			b.sent(next.at)
		case r := <-results:
			b.turns[r.at] = r.turn
			b.known[r.turn.Step.Name] = r.turn.Step.Contents
		}
	}
	return b.turns
}

// next is the first of those that weren't sent out yet all of whose Deps are known.
func (b *board) next() (task, bool) {
	for _, at := range b.unsent {
		if deps, all := b.contents(b.nodes[at].Deps); all {
			return task{at: at, node: b.nodes[at], deps: deps}, true
		}
	}
	return task{}, false
}

// sent tells of the node at a place that it was sent out.
func (b *board) sent(at int) {
	i := slices.Index(b.unsent, at)
	b.unsent = slices.Delete(b.unsent, i, i+1)
}

// contents are those of names, unless one of them isn't known yet.
func (b *board) contents(names []string) (l []uint64, all bool) {
	for _, name := range names {
		one, known := b.known[name]
		if !known {
			return nil, false
		}
		l = append(l, one)
	}
	return l, true
}
