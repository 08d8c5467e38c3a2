package build_test

import (
	"slices"
	"strconv"
	"testing"

	"tephra/api"
	"tephra/codec"
	"tephra/digest"
	"tephra/fold"
	"tephra/graph"
	"tephra/record"
	"tephra/rule"
	"tephra/store"
	"tephra/vfs"
)

// source: a node that is one.
func source(name string) api.Node {
	return api.Node{Name: name, Source: true}
}

// node: one that is made of others.
func node(name string, rule uint64, deps ...string) api.Node {
	return api.Node{Name: name, Rule: rule, Deps: deps}
}

// give: contents that are given of a name.
func give(name string, contents uint64) api.Step {
	return api.Step{Name: name, Contents: contents}
}

// chance: numbers that look like chance.
func chance(seed uint64) func(n int) int {
	x := seed
	return func(n int) int {
		x = x*6364136223846793005 + 1442695040888963407
		return int(x >> 33 % uint64(n))
	}
}

// shuffled: the same in another order.
func shuffled[T any](pick func(int) int, l []T) []T {
	l = slices.Clone(l)
	for i := range l {
		j := i + pick(len(l)-i)
		l[i], l[j] = l[j], l[i]
	}
	return l
}

// right: some graph that may be, of few names, so that another one has some of them, too.
func right(pick func(int) int) []api.Node {
	l := []api.Node{}
	for i := range pick(9) {
		n := api.Node{Name: strconv.Itoa(i * 7 % 10), Source: pick(3) == 0}
		if !n.Source {
			n.Rule = uint64(pick(2))
			for _, below := range shuffled(pick, l)[:min(pick(4), len(l))] {
				n.Deps = append(n.Deps, below.Name)
			}
		}
		l = append(l, n)
	}
	return shuffled(pick, l)
}

// some: given contents, a few of them.
func some(pick func(int) int) []api.Step {
	given := []api.Step{}
	for range pick(8) {
		given = append(given, give(strconv.Itoa(pick(10)), uint64(pick(3))))
	}
	return given
}

// refusedGraphs: nodes that aren't graphs that may be.
func refusedGraphs() [][]api.Node {
	return [][]api.Node{
		make([]api.Node, 65),
		{source("a"), source("")},
		{source("a"), node("a", 1)},
		{{Name: "a", Source: true, Rule: 1}},
		{source("s"), node("a", 1, "a")},
		{source("a"), node("b", 1, "a"), node("c", 1, "d")},
		{source("s"), node("z", 1, "s"), node("a", 1, "b"), node("b", 1, "a")},
	}
}

// wantE holds what a call answers against an error.
func wantE(t *testing.T, what string, e, want api.Errno) {
	t.Helper()
	if e != want {
		t.Fatalf("%s = %d, want %d", what, e, want)
	}
}

// opened: the store on a file system.
func opened(t *testing.T, fs *vfs.FS, version int) *store.Store {
	t.Helper()
	s, e := store.Open(fs, version)
	wantE(t, "Open", e, api.OK)
	return s
}

// files: a file system with a journal of records, all of it safe.
func files(t *testing.T, version int, l []api.Record) *vfs.FS {
	t.Helper()
	b, e := codec.Put(version, l)
	wantE(t, "codec.Put", e, api.OK)
	fs := vfs.New()
	fs.Append("log", b)
	fs.Sync("log")
	return fs
}

// told: all that a file system tells.
func told(fs *vfs.FS) string {
	s := "down " + strconv.FormatBool(fs.Down())
	for _, name := range fs.Names() {
		b, _ := fs.Read(name)
		s += "; " + strconv.Quote(name) + " " + strconv.Quote(string(b)) + " safe " + strconv.Itoa(fs.Safe(name))
	}
	return s
}

// wantAlike holds two stores, and their file systems, against each other.
func wantAlike(t *testing.T, what string, s *store.Store, fs *vfs.FS, other *store.Store, otherFS *vfs.FS) {
	t.Helper()
	if told(fs) != told(otherFS) {
		t.Fatalf("%s:\n%s, want\n%s", what, told(fs), told(otherFS))
	}
	if s.Over() != other.Over() || s.Version() != other.Version() || !slices.EqualFunc(s.Records(), other.Records(), record.Same) {
		t.Fatalf("%s: %v %v, want %v %v", what, s.Over(), s.Records(), other.Over(), other.Records())
	}
}

// wantSame holds what a call answers against steps and an error.
func wantSame(t *testing.T, what string, steps []api.Step, e api.Errno, want []api.Step, wantE api.Errno) {
	t.Helper()
	if e != wantE || !slices.Equal(steps, want) {
		t.Fatalf("%s = %v %d, want %v %d", what, steps, e, want, wantE)
	}
}

// model is a build in the words of the chapter, of a graph that may be.
type model struct {
	steps  []api.Step
	traces []api.Record
	why    map[string]int
}

// modelled: the build of a graph by these records, of a version.
func modelled(version int, records []api.Record, l []api.Node, given []api.Step, when uint64) model {
	m := model{why: map[string]int{}}
	contents := map[string]uint64{}
	order, _ := graph.Order(l)
	for _, at := range order {
		n := l[at]
		step := api.Step{Name: n.Name}
		deps, all := []api.Dep{}, []uint64{}
		for _, d := range n.Deps {
			deps, all = append(deps, api.Dep{Name: d, Hash: digest.Of(contents[d])}), append(all, contents[d])
		}
		m.why[n.Name] = asked(n, records, deps)
		r, _ := fold.Find(fold.Of(records), n.Name)
		switch {
		case n.Source:
			step.Contents = rule.Given(given, n.Name)
		case m.why[n.Name] == 0:
			step.Contents = digest.Back(r.Out)
		default:
			step.Ran, step.Contents = true, digest.Fold(n.Rule, all...)
			r = api.Record{Kind: 1, Target: n.Name, Rule: n.Rule, Deps: deps, Out: digest.Of(step.Contents), When: when}
			if version == 1 {
				r.When = 0
			}
			records = append(slices.Clone(records), r)
			m.traces = append(m.traces, r)
		}
		contents[n.Name] = step.Contents
		m.steps = append(m.steps, step)
	}
	return m
}

// asked: what is so of a node by records, and by what its Deps are now.
func asked(n api.Node, records []api.Record, deps []api.Dep) int {
	r, there := fold.Find(fold.Of(records), n.Name)
	switch {
	case n.Source:
		return 0
	case !there:
		return 1
	case r.Rule != n.Rule:
		return 2
	case len(r.Deps) != len(deps):
		return 3
	}
	for i, d := range r.Deps {
		if d.Name != deps[i].Name {
			return 3
		}
	}
	for i, d := range r.Deps {
		if !d.Order && d.Hash != deps[i].Hash {
			return 4
		}
	}
	return 0
}

// puts does to a store what a build does, by acts of its own: Put by Put, and a Commit if there was one.
func (m model) puts(s *store.Store) ([]api.Step, api.Errno) {
	for _, r := range m.traces {
		if e := s.Put(r); e != api.OK {
			return nil, e
		}
	}
	if len(m.traces) > 0 {
		if e := s.Commit(); e != api.OK {
			return nil, e
		}
	}
	return m.steps, api.OK
}

// stale: records of these nodes that may be at a version, of which something or nothing is another.
func stale(pick func(int) int, version int, l []api.Node, given []api.Step) []api.Record {
	var records []api.Record
	for _, r := range modelled(version, nil, l, given, uint64(pick(3))).traces {
		switch pick(9) {
		case 0:
			continue
		case 1:
			r.Rule++
		case 2:
			r.Deps = append(r.Deps, api.Dep{Name: "other"})
		case 3:
			r.Deps = shuffled(pick, r.Deps)
		case 4:
			for i := range r.Deps {
				r.Deps[i].Hash += uint64(pick(2))
				r.Deps[i].Order = version == 3 && pick(2) == 0
			}
		case 5:
			r.Out = digest.Of(uint64(pick(4)))
		case 6:
			records = append(records, r)
			r = api.Record{Kind: api.Gone, Target: r.Target}
		}
		if version == 3 && r.Kind == api.Trace && pick(2) == 0 {
			r.Tag = "old"
		}
		records = append(records, r)
	}
	return records
}
