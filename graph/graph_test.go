package graph_test

import (
	"math"
	"slices"
	"strconv"
	"strings"
	"testing"

	"tephra/api"
	"tephra/graph"
)

// source: a node that is one.
func source(name string) api.Node {
	return api.Node{Name: name, Source: true}
}

// node: one that is made of others.
func node(name string, deps ...string) api.Node {
	return api.Node{Name: name, Rule: 7, Deps: deps}
}

// numbered: that many names, no two alike.
func numbered(n int) []string {
	l := []string{}
	for i := range n {
		l = append(l, "n"+strconv.Itoa(1000+i))
	}
	return l
}

// sources: nodes of these names that are sources.
func sources(names ...string) []api.Node {
	l := []api.Node{}
	for _, name := range names {
		l = append(l, source(name))
	}
	return l
}

// row: that many nodes, each of which but the first is made of the one ahead.
func row(n int) []api.Node {
	names := numbered(n)
	l := []api.Node{node(names[0])}
	for i := 1; i < n; i++ {
		l = append(l, node(names[i], names[i-1]))
	}
	return l
}

// with: nodes, and more of them behind.
func with(l []api.Node, more ...api.Node) []api.Node {
	return slices.Concat(l, more)
}

// copied: the same nodes in new memory.
func copied(l []api.Node) []api.Node {
	l = slices.Clone(l)
	for i := range l {
		l[i].Deps = slices.Clone(l[i].Deps)
	}
	return l
}

// alike tells whether two lists of nodes are.
func alike(a, b []api.Node) bool {
	return slices.EqualFunc(a, b, func(x, y api.Node) bool {
		return x.Name == y.Name && x.Source == y.Source && x.Rule == y.Rule && slices.Equal(x.Deps, y.Deps)
	})
}

// names: those of the nodes at these places.
func names(l []api.Node, places []int) []string {
	var s []string
	for _, at := range places {
		s = append(s, l[at].Name)
	}
	return s
}

// wantCheck holds what Check and Order answer against an error, and what is handed in against what it was.
func wantCheck(t *testing.T, what string, l []api.Node, want api.Errno) {
	t.Helper()
	before := copied(l)
	if e := graph.Check(l); e != want {
		t.Fatalf("%s: Check = %d, want %d: %v", what, e, want, l)
	}
	order, e := graph.Order(l)
	if e != want || e != api.OK && len(order) != 0 || e == api.OK && len(order) != len(l) {
		t.Fatalf("%s: Order = %v %d, want %d: %v", what, order, e, want, l)
	}
	if !alike(l, before) {
		t.Fatalf("%s: %v was changed to %v", what, before, l)
	}
}

func TestOfTheChapter(t *testing.T) {
	l := []api.Node{node("b", "a"), source("a")}
	wantCheck(t, "b made of a", l, api.OK)
	if order, _ := graph.Order(l); !slices.Equal(order, []int{1, 0}) {
		t.Errorf("Order = %v", order)
	}
	if above := graph.Above(l, "a"); !slices.Equal(above, []string{"b"}) {
		t.Errorf("Above = %v", above)
	}
}

func TestCheck(t *testing.T) {
	long := strings.Repeat("x", 64)
	many := sources(numbered(64)...)
	ruled := source("a")
	ruled.Rule = math.MaxUint64
	made := source("b")
	made.Deps = []string{"a"}
	for what, x := range map[string]struct {
		l    []api.Node
		want api.Errno
	}{
		"none":                         {nil, api.OK},
		"no nodes":                     {[]api.Node{}, api.OK},
		"a source":                     {sources("a"), api.OK},
		"a source with an empty list":  {[]api.Node{{Name: "a", Source: true, Deps: []string{}}}, api.OK},
		"made of nothing, by no rule":  {[]api.Node{{Name: "a"}}, api.OK},
		"64 nodes":                     {many, api.OK},
		"65 nodes":                     {with(many, source("a")), api.ErrLimit},
		"64 in a row":                  {row(64), api.OK},
		"65 in a row":                  {row(65), api.ErrLimit},
		"any bytes":                    {[]api.Node{node("\x00\xff \n", "\x00"), source("\x00")}, api.OK},
		"64 bytes":                     {[]api.Node{node("a", long), source(long)}, api.OK},
		"65 bytes":                     {sources("a", long+"x"), api.ErrArg},
		"no name":                      {sources("a", ""), api.ErrArg},
		"a source twice":               {sources("a", "b", "a"), api.ErrArg},
		"a name twice":                 {[]api.Node{node("a", "b"), source("b"), source("a")}, api.ErrArg},
		"the same but for a letter":    {sources("a", "A", "a ", "a\x00"), api.OK},
		"a source with a rule":         {[]api.Node{ruled}, api.ErrArg},
		"a source with a dep":          {[]api.Node{source("a"), made}, api.ErrArg},
		"a dep twice":                  {[]api.Node{source("a"), source("b"), node("c", "a", "b", "a")}, api.ErrArg},
		"a dep that isn't there twice": {[]api.Node{node("c", "x", "x")}, api.ErrArg},
		"made of itself":               {[]api.Node{node("a", "a")}, api.ErrArg},
		"made of itself, too":          {[]api.Node{source("b"), node("a", "b", "a")}, api.ErrArg},
		"16 deps":                      {with(many[:16], node("a", numbered(16)...)), api.OK},
		"17 deps":                      {with(many[:17], node("a", numbered(17)...)), api.ErrLimit},
		"a dep that isn't there":       {[]api.Node{source("a"), node("b", "a", "c")}, api.ErrNone},
		"a dep without a name":         {[]api.Node{source("a"), node("b", "")}, api.ErrNone},
		"a dep of 65 bytes":            {[]api.Node{node("b", long+"x")}, api.ErrNone},
		"a cycle of two":               {[]api.Node{node("a", "b"), node("b", "a")}, api.ErrCycle},
		"a cycle of three":             {[]api.Node{source("s"), node("a", "s", "b"), node("b", "c"), node("c", "s", "a")}, api.ErrCycle},
		"a cycle beside others":        {with(row(20), node("b", "c"), node("c", "b")), api.ErrCycle},
		"a cycle of all":               {with(row(63)[1:], node("n1000", "n1062")), api.ErrCycle},
		"two ways that meet":           {[]api.Node{node("d", "b", "c"), node("c", "a"), node("b", "a"), source("a")}, api.OK},
	} {
		wantCheck(t, what, x.l, x.want)
	}
}

// TestFirstError: node by node, but for deps that aren't there, and then cycles, which are told last.
func TestFirstError(t *testing.T) {
	many := node("m", numbered(17)...)
	twice := node("w", append(numbered(17), "n1000")...)
	own := node("o", append(numbered(17), "o")...)
	absent := node("n", "absent")
	nameless := node("", numbered(17)...)
	cycle := []api.Node{node("a", "b"), node("b", "a")}
	for what, x := range map[string]struct {
		l    []api.Node
		want api.Errno
	}{
		"too many nodes ahead of all":            {with(sources(numbered(62)...), nameless, twice, source("")), api.ErrLimit},
		"too many deps, then no name":            {[]api.Node{many, source("")}, api.ErrLimit},
		"no name, then too many deps":            {[]api.Node{source(""), many}, api.ErrArg},
		"too many deps, then a name twice":       {[]api.Node{many, source("m")}, api.ErrLimit},
		"too many deps of a name that was there": {[]api.Node{source("m"), many}, api.ErrArg},
		"too many deps of no name":               {[]api.Node{nameless}, api.ErrArg},
		"too many deps, one twice":               {[]api.Node{twice}, api.ErrArg},
		"too many deps, one its own":             {[]api.Node{own}, api.ErrArg},
		"too many deps of a source":              {[]api.Node{{Name: "s", Source: true, Deps: numbered(17)}}, api.ErrArg},
		"too many deps, then one twice":          {[]api.Node{many, twice}, api.ErrLimit},
		"not there, then no name":                {[]api.Node{absent, source("")}, api.ErrArg},
		"not there, then too many deps":          {[]api.Node{absent, many}, api.ErrLimit},
		"not there, then a name twice":           {[]api.Node{absent, absent}, api.ErrArg},
		"a cycle, then no name":                  {with(cycle, source("")), api.ErrArg},
		"a cycle, then not there":                {with(cycle, absent), api.ErrNone},
		"on a cycle and not there":               {[]api.Node{node("a", "b"), node("b", "a", "absent")}, api.ErrNone},
	} {
		wantCheck(t, what, x.l, x.want)
	}
}

// TestAnyArguments: what is far too great is refused as said, too.
func TestAnyArguments(t *testing.T) {
	wantCheck(t, "many nodes", make([]api.Node, 100000), api.ErrLimit)
	wantCheck(t, "many deps", []api.Node{node("a", numbered(100000)...)}, api.ErrLimit)
	wantCheck(t, "many deps alike", []api.Node{node("a", make([]string, 100000)...)}, api.ErrArg)
	wantCheck(t, "a long name", []api.Node{source(strings.Repeat("x", 1<<20))}, api.ErrArg)
	all := row(20000)
	if above := graph.Above(all, all[0].Name); len(above) != 19999 || !slices.IsSorted(above) {
		t.Errorf("Above = %d names", len(above))
	}
}

// chance: numbers that look like chance.
func chance(seed uint64) func(n int) int {
	x := seed
	return func(n int) int {
		x = x*6364136223846793005 + 1442695040888963407
		return int(x >> 33 % uint64(n))
	}
}

// shuffled: the same in another order.
func shuffled[T any](pick func(int) int, l []T) []T {
	l = slices.Clone(l)
	for i := range l {
		j := i + pick(len(l)-i)
		l[i], l[j] = l[j], l[i]
	}
	return l
}

// right: some graph that may be, of at most that many nodes.
func right(pick func(int) int, most int) []api.Node {
	texts := shuffled(pick, append(numbered(most), "", "\x00", "\xff", "a", "a\x00", "b", "ä"))
	l := []api.Node{}
	for _, name := range texts[:pick(most+1)] {
		if name == "" {
			continue
		}
		n := api.Node{Name: name, Source: pick(4) == 0}
		if !n.Source {
			n.Rule = uint64(pick(3))
			for _, below := range shuffled(pick, l)[:min(pick(5), len(l))] {
				n.Deps = append(n.Deps, below.Name)
			}
		}
		l = append(l, n)
	}
	return shuffled(pick, l)
}

// some: nodes of few names, of which there may be anything wrong.
func some(pick func(int) int) []api.Node {
	texts := []string{"a", "b", "c", "d", "e", "f", "g", "", strings.Repeat("x", 65)}
	text := func() string { return texts[pick(7)+pick(20)/18*pick(3)] }
	l := []api.Node{}
	for range pick(5) {
		n := api.Node{Name: text(), Source: pick(3) == 0}
		if !n.Source || pick(9) == 0 {
			n.Rule = uint64(pick(2))
			for range pick(3) {
				n.Deps = append(n.Deps, text())
			}
			if pick(30) == 0 {
				n.Deps = append(n.Deps, numbered(17)...)
			}
		}
		l = append(l, n)
	}
	return l
}

// checked: what is wrong with a graph, in the words of the chapter.
func checked(l []api.Node) api.Errno {
	if len(l) > 64 {
		return api.ErrLimit
	}
	isName := func(name string) bool {
		return slices.ContainsFunc(l, func(n api.Node) bool { return n.Name == name })
	}
	for i, n := range l {
		twice := slices.ContainsFunc(l[:i], func(ahead api.Node) bool { return ahead.Name == n.Name })
		if len(n.Name) < 1 || len(n.Name) > 64 || twice || n.Source && (len(n.Deps) > 0 || n.Rule > 0) || slices.Contains(n.Deps, n.Name) {
			return api.ErrArg
		}
		for j, d := range n.Deps {
			if slices.Contains(n.Deps[:j], d) {
				return api.ErrArg
			}
		}
		if len(n.Deps) > 16 {
			return api.ErrLimit
		}
	}
	for _, n := range l {
		for _, d := range n.Deps {
			if !isName(d) {
				return api.ErrNone
			}
		}
	}
	for _, n := range l {
		if slices.Contains(above(l, n.Name), n.Name) {
			return api.ErrCycle
		}
	}
	return api.OK
}

// above: the names of those that a name leads to, in the words of the chapter: gone through until none comes in any more.
func above(l []api.Node, name string) []string {
	var in []string
	for grown := true; grown; {
		grown = false
		for _, n := range l {
			leads := slices.ContainsFunc(n.Deps, func(d string) bool { return d == name || slices.Contains(in, d) })
			if leads && !slices.Contains(in, n.Name) {
				in, grown = append(in, n.Name), true
			}
		}
	}
	slices.Sort(in)
	return in
}

// ordered: the names of a graph that may be, in its order, in the words of the chapter.
func ordered(l []api.Node) []string {
	var order []string
	for len(order) < len(l) {
		var ready []string
		for _, n := range l {
			stands := func(d string) bool { return slices.Contains(order, d) }
			if !stands(n.Name) && !slices.ContainsFunc(n.Deps, func(d string) bool { return !stands(d) }) {
				ready = append(ready, n.Name)
			}
		}
		order = append(order, slices.Min(ready))
	}
	return order
}

// TestCheckOfAny: Check against the words of the chapter.
func TestCheckOfAny(t *testing.T) {
	pick := chance(1)
	counts := map[api.Errno]int{}
	for range 40000 {
		l := some(pick)
		want := checked(l)
		counts[want]++
		wantCheck(t, "any", l, want)
	}
	for _, e := range []api.Errno{api.OK, api.ErrArg, api.ErrLimit, api.ErrNone, api.ErrCycle} {
		if counts[e] < 30 {
			t.Errorf("%d came %d times", e, counts[e])
		}
	}
}

// TestOrder: against the words of the chapter; each node stands behind its Deps, and the order of nodes that are handed in doesn't count.
func TestOrder(t *testing.T) {
	pick := chance(2)
	for range 2000 {
		l := right(pick, 1+pick(12))
		want := ordered(l)
		for range 3 {
			wantCheck(t, "right", l, api.OK)
			order, _ := graph.Order(l)
			if got := names(l, order); !slices.Equal(got, want) {
				t.Fatalf("Order = %q, want %q: %v", got, want, l)
			}
			for i, at := range order {
				for _, d := range l[at].Deps {
					if !slices.Contains(want[:i], d) {
						t.Fatalf("%q stands behind %q: %v", d, l[at].Name, l)
					}
				}
			}
			l = shuffled(pick, l)
		}
	}
	for what, x := range map[string]struct {
		l    []api.Node
		want string
	}{
		"the least first":       {sources("b", "a", "\xff", "a\x00", "B", "\x00"), "\x00 B a a\x00 b \xff"},
		"what gets ready comes": {[]api.Node{source("m"), node("a", "z"), node("b", "m"), source("z")}, "m b z a"},
		"again and again":       {[]api.Node{node("a", "b"), node("b", "c"), node("c", "d"), source("d"), source("e")}, "d c b a e"},
	} {
		order, _ := graph.Order(x.l)
		if got := strings.Join(names(x.l, order), " "); got != x.want {
			t.Errorf("%s: %q, want %q", what, got, x.want)
		}
	}
}

// TestAbove: of any nodes, against the words of the chapter.
func TestAbove(t *testing.T) {
	pick := chance(3)
	for i := range 6000 {
		l := some(pick)
		if i%3 == 0 {
			l = right(pick, 10)
		}
		before := copied(l)
		for _, name := range append(numbered(10), "a", "b", "c", "", "g", strings.Repeat("x", 65), "none") {
			if got, want := graph.Above(l, name), above(l, name); !slices.Equal(got, want) {
				t.Fatalf("Above(%q) = %q, want %q: %v", name, got, want, l)
			}
		}
		if !alike(l, before) {
			t.Fatalf("%v was changed to %v", before, l)
		}
	}
	l := []api.Node{node("a", "b", "x"), node("b", "c"), node("c", "a"), node("d", "c"), node("d"), source("e"), node("", "d", "d")}
	for name, want := range map[string][]string{
		"a": {"", "a", "b", "c", "d"}, "c": {"", "a", "b", "c", "d"}, "x": {"", "a", "b", "c", "d"},
		"d": {""}, "e": nil, "": nil, "none": nil,
	} {
		if got := graph.Above(l, name); !slices.Equal(got, want) {
			t.Errorf("Above(%q) = %q, want %q", name, got, want)
		}
	}
	if got := graph.Above(nil, ""); len(got) != 0 {
		t.Errorf("Above of no nodes = %q", got)
	}
}

// TestNewMemory: what is answered may be written into.
func TestNewMemory(t *testing.T) {
	l := row(5)
	before := copied(l)
	order, _ := graph.Order(l)
	clear(order)
	clear(graph.Above(l, "n1000"))
	again, _ := graph.Order(l)
	if !alike(l, before) || !slices.Equal(again, []int{0, 1, 2, 3, 4}) || len(graph.Above(l, "n1000")) != 4 || graph.Above(l, "n1000")[0] != "n1001" {
		t.Errorf("what was written counts: %v", again)
	}
}
