package dirty_test

import (
	"math"
	"slices"
	"strconv"
	"strings"
	"testing"

	"tephra/api"
	"tephra/digest"
	"tephra/dirty"
	"tephra/fold"
	"tephra/record"
)

// node: one that is made of others.
func node(name string, rule uint64, deps ...string) api.Node {
	return api.Node{Name: name, Rule: rule, Deps: deps}
}

// deps: some of these names, the number of each its digest.
func deps(names ...string) []api.Dep {
	l := []api.Dep{}
	for i, name := range names {
		l = append(l, api.Dep{Name: name, Hash: uint64(i + 1)})
	}
	return l
}

// trace: one of a target.
func trace(target string, rule uint64, deps ...api.Dep) api.Record {
	return api.Record{Kind: api.Trace, Target: target, Rule: rule, Deps: deps, Out: 9, When: 5, Tag: "t"}
}

// order: the dep, of which it doesn't count what it was.
func order(d api.Dep) api.Dep {
	d.Order = true
	return d
}

// wantWhy holds Why against a number, and what is handed in against what it was.
func wantWhy(t *testing.T, what string, n api.Node, state []api.Record, hashes []uint64, want int) {
	t.Helper()
	names, digests := slices.Clone(n.Deps), slices.Clone(hashes)
	records := []api.Record{}
	for _, r := range state {
		records = append(records, record.Clone(r))
	}
	if got := dirty.Why(n, state, hashes); got != want {
		t.Fatalf("%s: Why = %d, want %d: %v, %v, %v", what, got, want, n, state, hashes)
	}
	if !slices.Equal(n.Deps, names) || !slices.Equal(hashes, digests) || !fold.Same(state, records) {
		t.Fatalf("%s: what was handed in was changed", what)
	}
}

func TestOfTheChapter(t *testing.T) {
	n := node("a", 7, "b")
	r, e := dirty.Trace(n, []uint64{1}, 2, 3)
	if e != api.OK {
		t.Fatal(e)
	}
	state := []api.Record{r}
	wantWhy(t, "no trace", n, nil, []uint64{1}, 1)
	wantWhy(t, "its own", n, state, []uint64{1}, 0)
	wantWhy(t, "another rule", node("a", 8, "b"), state, []uint64{1}, 2)
}

func TestWhy(t *testing.T) {
	n := node("a", 7, "b", "c")
	own := trace("a", 7, deps("b", "c")...)
	other := trace("b", 1, deps("c")...)
	two := []uint64{1, 2}
	for what, x := range map[string]struct {
		state  []api.Record
		hashes []uint64
		want   int
	}{
		"clean":                        {[]api.Record{own}, two, 0},
		"clean among others":           {[]api.Record{trace("A", 1), own, other}, two, 0},
		"no state":                     {nil, two, 1},
		"others' traces":               {[]api.Record{other, trace("a\x00", 7, deps("b", "c")...), trace("", 7), trace("A", 7, deps("b", "c")...)}, two, 1},
		"it is gone":                   {[]api.Record{{Kind: api.Gone, Target: "a", Rule: 7, Deps: deps("b", "c")}}, two, 1},
		"of no kind":                   {[]api.Record{{Kind: 3, Target: "a", Rule: 7, Deps: deps("b", "c")}}, two, 1},
		"another rule":                 {[]api.Record{trace("a", 8, deps("b", "c")...)}, two, 2},
		"another rule in the high bit": {[]api.Record{trace("a", 7|1<<63, deps("b", "c")...)}, two, 2},
		"deps in another order":        {[]api.Record{trace("a", 7, deps("c", "b")...)}, two, 3},
		"a dep less":                   {[]api.Record{trace("a", 7, deps("b")...)}, two, 3},
		"a dep more":                   {[]api.Record{trace("a", 7, deps("b", "c", "d")...)}, two, 3},
		"no deps":                      {[]api.Record{trace("a", 7)}, two, 3},
		"another dep":                  {[]api.Record{trace("a", 7, deps("b", "C")...)}, two, 3},
		"a hash less":                  {[]api.Record{own}, two[:1], 3},
		"a hash more":                  {[]api.Record{own}, []uint64{1, 2, 3}, 3},
		"no hashes":                    {[]api.Record{own}, nil, 3},
		"hashes of the trace's deps":   {[]api.Record{trace("a", 7, deps("b")...)}, []uint64{1}, 3},
		"the first hash":               {[]api.Record{own}, []uint64{3, 2}, 4},
		"the last hash":                {[]api.Record{own}, []uint64{1, 3}, 4},
		"hashes in another order":      {[]api.Record{own}, []uint64{2, 1}, 4},
		"a hash in its high bit":       {[]api.Record{own}, []uint64{1, 2 | 1<<63}, 4},
		"an order's hash":              {[]api.Record{trace("a", 7, order(own.Deps[0]), own.Deps[1])}, []uint64{3, 2}, 0},
		"a hash behind an order's":     {[]api.Record{trace("a", 7, order(own.Deps[0]), own.Deps[1])}, []uint64{3, 3}, 4},
		"orders' hashes":               {[]api.Record{trace("a", 7, order(own.Deps[0]), order(own.Deps[1]))}, []uint64{8, 9}, 0},
		"an order's name":              {[]api.Record{trace("a", 7, order(own.Deps[1]), own.Deps[1])}, two, 3},
		"an order, and a hash less":    {[]api.Record{trace("a", 7, order(own.Deps[0]), order(own.Deps[1]))}, two[1:], 3},
		"the last trace counts":        {[]api.Record{own, trace("a", 8)}, two, 2},
		"the first one doesn't":        {[]api.Record{trace("a", 8), own}, two, 0},
		"what is gone behind doesn't":  {[]api.Record{own, {Kind: api.Gone, Target: "a"}}, two, 0},
		"rule ahead of deps":           {[]api.Record{trace("a", 8, deps("c")...)}, nil, 2},
		"rule ahead of a hash":         {[]api.Record{trace("a", 8, deps("b", "c")...)}, []uint64{3, 3}, 2},
		"deps ahead of a hash":         {[]api.Record{trace("a", 7, deps("b", "d")...)}, []uint64{3, 3}, 3},
		"no trace ahead of all":        {nil, nil, 1},
	} {
		wantWhy(t, what, n, x.state, x.hashes, x.want)
		source := n
		source.Source = true
		wantWhy(t, "a source, "+what, source, x.state, x.hashes, 0)
	}
	bare := []api.Record{{Kind: api.Trace}}
	wantWhy(t, "nothing of all", api.Node{}, bare, nil, 0)
	wantWhy(t, "no digests", api.Node{Deps: []string{}}, bare, []uint64{}, 0)
	wantWhy(t, "a digest", api.Node{}, bare, []uint64{0}, 3)
}

func TestTrace(t *testing.T) {
	long := strings.Repeat("x", 100)
	for i, x := range []struct {
		n              api.Node
		hashes         []uint64
		contents, when uint64
	}{
		{node("a", 7, "b", "c"), []uint64{1, 2}, 3, 4},
		{node("a", math.MaxUint64), nil, 0, 0},
		{node("a", 0), []uint64{}, math.MaxUint64, math.MaxUint64},
		{api.Node{}, nil, 1, 0},
		{node("", 1, "", "", long), []uint64{0, 0, math.MaxUint64}, 5, 1},
		{node("a", 1, make([]string, 1000)...), make([]uint64, 1000), 5, 1},
	} {
		want := api.Record{Kind: 1, Target: x.n.Name, Rule: x.n.Rule, Out: digest.Of(x.contents), When: x.when}
		for i, name := range x.n.Deps {
			want.Deps = append(want.Deps, api.Dep{Name: name, Hash: x.hashes[i]})
		}
		r, e := dirty.Trace(x.n, x.hashes, x.contents, x.when)
		if e != api.OK || !record.Same(r, want) {
			t.Errorf("%d: Trace = %v %d, want %v", i, r, e, want)
		}
		refused := func(what string, n api.Node, hashes []uint64) {
			if r, e := dirty.Trace(n, hashes, x.contents, x.when); e != api.ErrArg || !record.Same(r, api.Record{}) {
				t.Errorf("%d, %s: Trace = %v %d", i, what, r, e)
			}
		}
		refused("a hash more", x.n, append(slices.Clone(x.hashes), 1))
		if len(x.hashes) > 0 {
			refused("a hash less", x.n, x.hashes[1:])
			refused("no hashes", x.n, nil)
		}
		source := x.n
		source.Source = true
		refused("a source", source, x.hashes)
		refused("a source, a hash more", source, append(slices.Clone(x.hashes), 1))
	}
}

func TestHashes(t *testing.T) {
	contents := []uint64{0, 1, 1, math.MaxUint64, 0}
	hashes := dirty.Hashes(contents)
	if want := []uint64{digest.Of(0), digest.Of(1), digest.Of(1), digest.Of(math.MaxUint64), digest.Of(0)}; !slices.Equal(hashes, want) {
		t.Errorf("Hashes = %x, want %x", hashes, want)
	}
	clear(hashes)
	if !slices.Equal(contents, []uint64{0, 1, 1, math.MaxUint64, 0}) || len(dirty.Hashes(nil)) != 0 || len(dirty.Hashes([]uint64{})) != 0 {
		t.Error("what was answered counts")
	}
}

// TestNewMemory: what is answered, and what was handed in, may be written into.
func TestNewMemory(t *testing.T) {
	n, hashes := node("a", 7, "b", "c"), []uint64{1, 2}
	r, _ := dirty.Trace(n, hashes, 3, 4)
	again, _ := dirty.Trace(n, hashes, 3, 4)
	hashes[0], n.Deps[1] = 9, "z"
	if !record.Same(r, again) || r.Deps[0].Hash != 1 || r.Deps[1].Name != "c" {
		t.Errorf("the trace is %v", r)
	}
	clear(r.Deps)
	if hashes[1] != 2 || n.Deps[0] != "b" || again.Deps[0].Name != "b" {
		t.Errorf("%v, %v, %v", hashes, n, again)
	}
}

// chance: numbers that look like chance.
func chance(seed uint64) func(n int) int {
	x := seed
	return func(n int) int {
		x = x*6364136223846793005 + 1442695040888963407
		return int(x >> 33 % uint64(n))
	}
}

// asked: what is asked, in the words of the chapter.
func asked(n api.Node, state []api.Record, hashes []uint64) int {
	at := -1
	for i, r := range state {
		if r.Kind == 1 && r.Target == n.Name {
			at = i
		}
	}
	if n.Source {
		return 0
	}
	if at < 0 {
		return 1
	}
	r, names := state[at], []string{}
	for _, d := range r.Deps {
		names = append(names, d.Name)
	}
	if r.Rule != n.Rule {
		return 2
	}
	if !slices.Equal(names, n.Deps) || len(hashes) != len(n.Deps) {
		return 3
	}
	for i, d := range r.Deps {
		if !d.Order && d.Hash != hashes[i] {
			return 4
		}
	}
	return 0
}

// TestWhyOfAny: Why against the words of the chapter.
func TestWhyOfAny(t *testing.T) {
	pick := chance(1)
	text := func() string { return []string{"a", "b", ""}[pick(3)] }
	counts := [5]int{}
	for range 30000 {
		n := api.Node{Name: text(), Source: pick(20) == 0, Rule: uint64(pick(2))}
		hashes, state := []uint64{}, []api.Record{}
		for range pick(3) {
			n.Deps, hashes = append(n.Deps, text()), append(hashes, uint64(pick(2)))
		}
		for range pick(4) {
			r := api.Record{Kind: 1 + pick(6)/5, Target: text(), Rule: uint64(pick(2))}
			for range pick(3) {
				r.Deps = append(r.Deps, api.Dep{Name: text(), Hash: uint64(pick(2)), Order: pick(4) == 0})
			}
			state = append(state, r)
		}
		if pick(9) == 0 {
			hashes = append(hashes, 1)
		}
		want := asked(n, state, hashes)
		counts[want]++
		wantWhy(t, "any", n, state, hashes, want)
	}
	for i, count := range counts {
		if count < 50 {
			t.Errorf("%d came %d times", i, count)
		}
	}
}

// TestCleanThen: by its trace, in whatever state it was put last, a node is clean with the same digests, and with no other ones.
func TestCleanThen(t *testing.T) {
	pick := chance(2)
	for range 300 {
		names, contents := []string{}, []uint64{}
		for i := range pick(17) {
			names, contents = append(names, "d"+strconv.Itoa(i)), append(contents, uint64(pick(3))<<61)
		}
		n := node("n", uint64(pick(3)), names...)
		hashes := dirty.Hashes(contents)
		r, e := dirty.Trace(n, hashes, uint64(pick(5)), uint64(pick(5)))
		if e != api.OK || !record.May(2, r) {
			t.Fatalf("Trace = %v %d", r, e)
		}
		state := []api.Record{}
		for range pick(4) {
			state = fold.Put(state, trace([]string{"m", "n", "o"}[pick(3)], uint64(pick(3)), deps(names...)...))
		}
		state = fold.Put(state, r)
		wantWhy(t, "then", n, state, hashes, 0)
		for i := range contents {
			for bit := range 64 {
				other := slices.Clone(contents)
				other[i] ^= 1 << bit
				wantWhy(t, "other contents", n, state, dirty.Hashes(other), 4)
				hash := slices.Clone(hashes)
				hash[i] ^= 1 << bit
				wantWhy(t, "another digest", n, state, hash, 4)
			}
		}
		wantWhy(t, "a digest more", n, state, append(slices.Clone(hashes), 1), 3)
	}
}
