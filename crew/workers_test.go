package crew

import (
	"slices"
	"strconv"
	"sync"
	"sync/atomic"
	"testing"
	"time"

	"tephra/api"
	"tephra/turn"
)

// patience: how long that is waited for which comes at once, if it comes.
const patience = 20 * time.Second

// node: one that is made of others.
func node(name string, deps ...string) api.Node {
	return api.Node{Name: name, Deps: deps}
}

// named: what a node comes to of which nothing but its name is told.
func named(n api.Node) turn.Turn {
	return turn.Turn{Step: api.Step{Name: n.Name}}
}

// comes waits for a channel to be closed, and tells whether it was.
func comes(c <-chan struct{}) bool {
	select {
	case <-c:
		return true
	case <-time.After(patience):
		return false
	}
}

// TestAtTheSameTime: as many nodes as there are workers are found out at the same time, and no more than that.
func TestAtTheSameTime(t *testing.T) {
	for workers := 1; workers <= api.MaxWorkers; workers++ {
		var nodes []api.Node
		for i := range 3 * workers {
			nodes = append(nodes, node(strconv.Itoa(i)))
		}
		all := make(chan struct{})
		var came, going, most atomic.Int64
		turns := foundOut(nodes, workers, func(n api.Node, deps []uint64) turn.Turn {
			now := going.Add(1)
			defer going.Add(-1)
			for was := most.Load(); now > was && !most.CompareAndSwap(was, now); was = most.Load() {
			}
			if came.Add(1) == int64(workers) {
				close(all)
			}
			if !comes(all) {
				t.Errorf("%d workers: not as many go on at the same time", workers)
			}
			return named(n)
		})
		if len(turns) != len(nodes) || int(came.Load()) != len(nodes) || int(most.Load()) != workers || going.Load() != 0 {
			t.Fatalf("%d workers: %d nodes were found out, %d at the same time, %d still are", workers, came.Load(), most.Load(), going.Load())
		}
	}
}

// TestAsSoonAsKnown: a node is waited for by those alone that are made of it.
func TestAsSoonAsKnown(t *testing.T) {
	nodes := []api.Node{node("a"), node("b"), node("c", "b"), node("d", "c"), node("e", "d", "a")}
	for workers := 2; workers <= api.MaxWorkers; workers++ {
		last := make(chan struct{})
		foundOut(nodes, workers, func(n api.Node, deps []uint64) turn.Turn {
			switch n.Name {
			case "a":
				if !comes(last) {
					t.Errorf("%d workers: others wait for a node of which they aren't made", workers)
				}
			case "d":
				close(last)
			}
			return named(n)
		})
	}
}

// TestFoundOut: each node once, with the contents of its Deps in order, whatever the order in which results come in.
func TestFoundOut(t *testing.T) {
	nodes := []api.Node{node("a"), node("b"), node("c", "b", "a"), node("d"), node("e", "d", "c", "a"), node("f", "e")}
	at := map[string]int{}
	for i, n := range nodes {
		at[n.Name] = i
	}
	for round := range 200 {
		workers := 1 + round%api.MaxWorkers
		var lock sync.Mutex
		var found []string
		turns := foundOut(nodes, workers, func(n api.Node, deps []uint64) turn.Turn {
			for i, name := range n.Deps {
				if deps[i] != uint64(at[name]+1) {
					t.Errorf("%q is found out with %v", n.Name, deps)
				}
			}
			if len(deps) != len(n.Deps) {
				t.Errorf("%q is found out with %v", n.Name, deps)
			}
			lock.Lock()
			defer lock.Unlock()
			found = append(found, n.Name)
			return turn.Turn{Step: api.Step{Name: n.Name, Contents: uint64(at[n.Name] + 1)}}
		})
		for i, one := range turns {
			if one.Step.Name != nodes[i].Name {
				t.Fatalf("place %d: %v", i, one)
			}
		}
		slices.Sort(found)
		if !slices.Equal(found, []string{"a", "b", "c", "d", "e", "f"}) {
			t.Fatalf("found out: %q", found)
		}
	}
	if turns := foundOut(nil, 3, nil); len(turns) != 0 {
		t.Errorf("of no nodes: %v", turns)
	}
}
