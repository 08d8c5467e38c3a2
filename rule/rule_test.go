package rule_test

import (
	"math"
	"slices"
	"strconv"
	"strings"
	"testing"

	"tephra/api"
	"tephra/digest"
	"tephra/graph"
	"tephra/rule"
)

// source: a node that is one.
func source(name string) api.Node {
	return api.Node{Name: name, Source: true}
}

// node: one that is made of others.
func node(name string, rule uint64, deps ...string) api.Node {
	return api.Node{Name: name, Rule: rule, Deps: deps}
}

// give: contents that are given of a name.
func give(name string, contents uint64) api.Step {
	return api.Step{Name: name, Contents: contents}
}

// folded: the fold of a number and a row, in the words of its chapter.
func folded(n uint64, row []uint64) uint64 {
	h := digest.Of(n)
	for _, x := range row {
		h = digest.Of(h ^ x)
	}
	return h
}

func TestOfTheChapter(t *testing.T) {
	steps, e := rule.Clean([]api.Node{node("b", 1, "a"), source("a")}, []api.Step{give("a", 5)})
	want := []api.Step{{Name: "a", Contents: 5}, {Name: "b", Ran: true, Contents: digest.Fold(1, 5)}}
	if e != api.OK || !slices.Equal(steps, want) {
		t.Errorf("Clean = %v %d, want %v", steps, e, want)
	}
}

func TestGiven(t *testing.T) {
	l := []api.Step{give("a", 1), give("b", 2), {Name: "a", Ran: true, Contents: 3}, give("", 4), give("c", math.MaxUint64), give("b", 0), give("A", 9)}
	for name, want := range map[string]uint64{"a": 3, "b": 0, "": 4, "c": math.MaxUint64, "A": 9, "d": 0, "a ": 0, strings.Repeat("x", 1000): 0} {
		if got := rule.Given(l, name); got != want {
			t.Errorf("Given(%q) = %d, want %d", name, got, want)
		}
		if rule.Given(nil, name) != 0 || rule.Given([]api.Step{}, name) != 0 {
			t.Errorf("Given(%q) of none", name)
		}
	}
	if l[0] != give("a", 1) || l[5] != give("b", 0) {
		t.Errorf("%v was changed", l)
	}
}

func TestRun(t *testing.T) {
	rows := [][]uint64{nil, {}, {0}, {1}, {5}, {0, 0}, {1, 2}, {2, 1}, {math.MaxUint64, 1 << 63, 0}, make([]uint64, 100000)}
	for _, number := range []uint64{0, 1, 2, 1 << 63, math.MaxUint64} {
		for _, row := range rows {
			before := slices.Clone(row)
			want := folded(number, row)
			if got := rule.Run(node("a", number), row); got != want {
				t.Errorf("Run(%d, %d numbers) = %x, want %x", number, len(row), got, want)
			}
			// Nothing but its rule counts.
			if got := rule.Run(api.Node{Name: "", Source: true, Rule: number, Deps: []string{"x", "x"}}, row); got != want {
				t.Errorf("Run of a source, of %d = %x, want %x", number, got, want)
			}
			if !slices.Equal(row, before) {
				t.Fatal("what was handed in was changed")
			}
		}
	}
}

// TestRefused: layer 21's errors, and no steps.
func TestRefused(t *testing.T) {
	for i, l := range [][]api.Node{
		make([]api.Node, 65),
		{source("")},
		{source("a"), source("a")},
		{{Name: "a", Source: true, Rule: 1}},
		{node("a", 1, "a")},
		{source("a"), node("b", 1, "a", "c")},
		{node("a", 1, "b"), node("b", 1, "a")},
	} {
		want := graph.Check(l)
		if steps, e := rule.Clean(l, []api.Step{give("a", 1)}); want == api.OK || e != want || len(steps) != 0 {
			t.Errorf("%d: Clean = %v %d, want %d", i, steps, e, want)
		}
	}
}

// chance: numbers that look like chance.
func chance(seed uint64) func(n int) int {
	x := seed
	return func(n int) int {
		x = x*6364136223846793005 + 1442695040888963407
		return int(x >> 33 % uint64(n))
	}
}

// shuffled: the same in another order.
func shuffled[T any](pick func(int) int, l []T) []T {
	l = slices.Clone(l)
	for i := range l {
		j := i + pick(len(l)-i)
		l[i], l[j] = l[j], l[i]
	}
	return l
}

// right: some graph that may be.
func right(pick func(int) int) []api.Node {
	l := []api.Node{}
	for i := range pick(14) {
		n := api.Node{Name: strconv.Itoa(pick(9)*20 + i), Source: pick(3) == 0}
		if !n.Source {
			n.Rule = uint64(pick(3))
			for _, below := range shuffled(pick, l)[:min(pick(5), len(l))] {
				n.Deps = append(n.Deps, below.Name)
			}
		}
		if !slices.ContainsFunc(l, func(other api.Node) bool { return other.Name == n.Name }) {
			l = append(l, n)
		}
	}
	return shuffled(pick, l)
}

// some: given contents, some of them of names that no node has, or of nodes that are no sources.
func some(pick func(int) int, l []api.Node) []api.Step {
	given := []api.Step{give("other", 1)}
	for range pick(12) {
		if len(l) > 0 {
			given = append(given, give(l[pick(len(l))].Name, uint64(pick(4))<<62+uint64(pick(3))))
		}
	}
	return given
}

// contents: those of a name in a graph that may be, in the words of the chapter.
func contents(l []api.Node, given []api.Step, name string) uint64 {
	at := slices.IndexFunc(l, func(n api.Node) bool { return n.Name == name })
	if l[at].Source {
		all := uint64(0)
		for _, g := range given {
			if g.Name == name {
				all = g.Contents
			}
		}
		return all
	}
	var deps []uint64
	for _, d := range l[at].Deps {
		deps = append(deps, contents(l, given, d))
	}
	return folded(l[at].Rule, deps)
}

// TestClean: against the words of the chapter; the order of nodes that are handed in doesn't count.
func TestClean(t *testing.T) {
	pick := chance(1)
	for range 3000 {
		l := right(pick)
		given := some(pick, l)
		before := slices.Clone(given)
		var want []api.Step
		order, _ := graph.Order(l)
		for _, at := range order {
			want = append(want, api.Step{Name: l[at].Name, Ran: !l[at].Source, Contents: contents(l, given, l[at].Name)})
		}
		for range 2 {
			steps, e := rule.Clean(l, given)
			if e != api.OK || !slices.Equal(steps, want) {
				t.Fatalf("Clean = %v %d, want %v: %v, %v", steps, e, want, l, given)
			}
			clear(steps)
			l = shuffled(pick, l)
		}
		if !slices.Equal(given, before) {
			t.Fatalf("%v was changed to %v", before, given)
		}
	}
	if steps, e := rule.Clean(nil, nil); e != api.OK || len(steps) != 0 {
		t.Errorf("Clean of none = %v %d", steps, e)
	}
}

// TestOnlyWhatLeadsThere: with other contents given of a source all that it leads to change, by one way, and nothing else does.
func TestOnlyWhatLeadsThere(t *testing.T) {
	pick := chance(2)
	changed := 0
	for range 2000 {
		l := right(pick)
		given := some(pick, l)
		before, _ := rule.Clean(l, given)
		for _, n := range l {
			after, e := rule.Clean(l, append(slices.Clone(given), give(n.Name, contents(l, given, n.Name)+1)))
			if e != api.OK {
				t.Fatal(e)
			}
			above := graph.Above(l, n.Name)
			for i, step := range after {
				same := step == before[i]
				if may := n.Source && (step.Name == n.Name || slices.Contains(above, step.Name)); !same && !may {
					t.Fatalf("%q was changed by %q: %v", step.Name, n.Name, l)
				}
				if step.Name == n.Name && n.Source && same {
					t.Fatalf("%q wasn't changed: %v", n.Name, l)
				}
				if !same {
					changed++
				}
			}
		}
	}
	if changed < 1000 {
		t.Errorf("%d steps were changed", changed)
	}
	// By one way alone there is nothing by which a change could be lost.
	l := []api.Node{source("a"), node("b", 1, "a"), node("c", 2, "b"), source("d")}
	one, _ := rule.Clean(l, []api.Step{give("a", 1), give("d", 1)})
	other, _ := rule.Clean(l, []api.Step{give("a", 2), give("d", 1)})
	for i, step := range one {
		if (step == other[i]) != (step.Name == "d") {
			t.Errorf("%v, and %v", step, other[i])
		}
	}
}
