package crew_test

import (
	"math"
	"runtime"
	"slices"
	"strconv"
	"strings"
	"sync"
	"testing"

	"tephra/api"
	"tephra/build"
	"tephra/crew"
	"tephra/graph"
	"tephra/record"
	"tephra/rule"
	"tephra/store"
	"tephra/vfs"
)

// source: a node that is one.
func source(name string) api.Node {
	return api.Node{Name: name, Source: true}
}

// node: one that is made of others.
func node(name string, rule uint64, deps ...string) api.Node {
	return api.Node{Name: name, Rule: rule, Deps: deps}
}

// give: contents that are given of a name.
func give(name string, contents uint64) api.Step {
	return api.Step{Name: name, Contents: contents}
}

// chance: numbers that look like chance.
func chance(seed uint64) func(n int) int {
	x := seed
	return func(n int) int {
		x = x*6364136223846793005 + 1442695040888963407
		return int(x >> 33 % uint64(n))
	}
}

// shuffled: the same in another order.
func shuffled[T any](pick func(int) int, l []T) []T {
	l = slices.Clone(l)
	for i := range l {
		j := i + pick(len(l)-i)
		l[i], l[j] = l[j], l[i]
	}
	return l
}

// right: some graph that may be, of at most that many nodes.
func right(pick func(int) int, most int) []api.Node {
	l := []api.Node{}
	for i := range pick(most + 1) {
		n := api.Node{Name: strconv.Itoa(i * 37 % 101), Source: pick(4) == 0}
		if !n.Source {
			n.Rule = uint64(pick(2))
			for _, below := range shuffled(pick, l)[:min(pick(4), len(l))] {
				n.Deps = append(n.Deps, below.Name)
			}
		}
		l = append(l, n)
	}
	return shuffled(pick, l)
}

// some: given contents, a few of them.
func some(pick func(int) int) []api.Step {
	given := []api.Step{}
	for range pick(20) {
		given = append(given, give(strconv.Itoa(pick(101)), uint64(pick(3))))
	}
	return given
}

// wantE holds what a call answers against an error.
func wantE(t *testing.T, what string, e, want api.Errno) {
	t.Helper()
	if e != want {
		t.Fatalf("%s = %d, want %d", what, e, want)
	}
}

// opened: the store on a file system.
func opened(t *testing.T, fs *vfs.FS, version int) *store.Store {
	t.Helper()
	s, e := store.Open(fs, version)
	wantE(t, "Open", e, api.OK)
	return s
}

// told: all that a file system tells.
func told(fs *vfs.FS) string {
	s := "down " + strconv.FormatBool(fs.Down())
	for _, name := range fs.Names() {
		b, _ := fs.Read(name)
		s += "; " + strconv.Quote(name) + " " + strconv.Quote(string(b)) + " safe " + strconv.Itoa(fs.Safe(name))
	}
	return s
}

// built: a file system with the store of a build, one trace of which is gone.
func built(t *testing.T, pick func(int) int, version int, l []api.Node) *vfs.FS {
	t.Helper()
	fs := vfs.New()
	s := opened(t, fs, version)
	_, e := build.Run(s, l, some(pick), 3)
	wantE(t, "build.Run", e, api.OK)
	if all := s.All(); len(all) > 0 {
		wantE(t, "Delete", s.Delete(all[pick(len(all))].Target), api.OK)
	}
	return fs
}

// wantAlike does the same by a crew, on copies of a file system, and by one alone, and holds both against each other.
func wantAlike(t *testing.T, fs *vfs.FS, ask func(fs *vfs.FS), l []api.Node, given []api.Step, when uint64, workers int) {
	t.Helper()
	got, want := fs.Copy(), fs.Copy()
	s, o := opened(t, got, 1), opened(t, want, 1)
	ask(got)
	ask(want)
	steps, e := crew.Run(s, l, given, when, workers)
	wantSteps, wantE := build.Run(o, l, given, when)
	if e != wantE || !slices.Equal(steps, wantSteps) {
		t.Fatalf("%d workers: %v %d, want %v %d", workers, steps, e, wantSteps, wantE)
	}
	if told(got) != told(want) {
		t.Fatalf("%d workers:\n%s, want\n%s", workers, told(got), told(want))
	}
	if s.Over() != o.Over() || s.Version() != o.Version() || !slices.EqualFunc(s.Records(), o.Records(), record.Same) {
		t.Fatalf("%d workers: %v %v, want %v %v", workers, s.Over(), s.Records(), o.Over(), o.Records())
	}
	// What was asked of acts that didn't come is asked of the same ones.
	for range 3 {
		if e, want := got.Append("more", nil), want.Append("more", nil); e != want {
			t.Fatalf("%d workers: an act behind it answers %d, want %d", workers, e, want)
		}
	}
}

// nothing asks nothing of a file system.
func nothing(*vfs.FS) {}

func TestOfTheChapter(t *testing.T) {
	waves, e := crew.Waves([]api.Node{node("b", 1, "a"), source("a")})
	if e != api.OK || len(waves) != 2 || !slices.Equal(waves[0], []string{"a"}) || !slices.Equal(waves[1], []string{"b"}) {
		t.Errorf("Waves = %q %d", waves, e)
	}
}

// TestAlike: neither answer nor store, nor file, hangs on how many workers there are: all are those of a build by one.
func TestAlike(t *testing.T) {
	pick := chance(1)
	for i := range 120 {
		l := right(pick, 40)
		fs, given, when := built(t, pick, 1+i%3, l), some(pick), []uint64{0, 7, math.MaxUint64}[pick(3)]
		for workers := 1; workers <= 16; workers++ {
			wantAlike(t, fs, nothing, shuffled(pick, l), given, when, workers)
		}
	}
}

// TestActByAct: with each act failing, and fallen at.
func TestActByAct(t *testing.T) {
	pick := chance(2)
	for i := range 40 {
		l := right(pick, 12)
		fs, given := built(t, pick, 1+i%3, l), some(pick)
		for n := range len(l) + 2 {
			for _, ask := range []func(*vfs.FS){func(fs *vfs.FS) { fs.Fail(n) }, func(fs *vfs.FS) { fs.Fall(n) }, func(fs *vfs.FS) { fs.Fail(n); fs.Fall(n + 1) }} {
				wantAlike(t, fs, ask, l, given, 9, 1+pick(16))
			}
		}
	}
}

// TestAgain: built again nothing is run, and nothing is put, not even an act is done.
func TestAgain(t *testing.T) {
	l := []api.Node{node("c", 2, "b", "a"), node("b", 1, "a"), source("a")}
	given := []api.Step{give("a", 5)}
	for workers := 1; workers <= 16; workers++ {
		fs := vfs.New()
		s := opened(t, fs, 2)
		steps, e := crew.Run(s, l, given, 7, workers)
		clean, _ := rule.Clean(l, given)
		if e != api.OK || !slices.Equal(steps, clean) {
			t.Fatalf("Run = %v %d, want %v", steps, e, clean)
		}
		before := told(fs)
		fs.Fall(0)
		steps, e = crew.Run(s, l, given, 8, 17-workers)
		wantE(t, "Run again", e, api.OK)
		for i, step := range steps {
			if step.Ran || step.Contents != clean[i].Contents {
				t.Fatalf("Run again = %v, behind %v", steps, clean)
			}
		}
		if told(fs) != before {
			t.Fatalf("Run again changed it to %s", told(fs))
		}
	}
}

// TestRefused: which error is told first, and that nothing is done.
func TestRefused(t *testing.T) {
	good := []api.Node{source("a"), node("b", 1, "a")}
	wrong := []api.Node{source("a"), node("b", 1, "c")}
	overFS := vfs.New()
	over := opened(t, overFS, 2)
	overFS.Fall(0)
	wantE(t, "Commit", over.Commit(), api.ErrDown)
	overFS.Crash()
	fs := vfs.New()
	s := opened(t, fs, 2)
	for i, x := range []struct {
		s       *store.Store
		l       []api.Node
		workers int
		want    api.Errno
	}{
		{s, good, 0, api.ErrArg},
		{s, good, -1, api.ErrArg},
		{s, good, 17, api.ErrArg},
		{s, good, math.MaxInt, api.ErrArg},
		{s, good, math.MinInt, api.ErrArg},
		{s, nil, 0, api.ErrArg},
		{s, wrong, 17, api.ErrArg},
		{over, good, 0, api.ErrArg},
		{nil, good, 1, api.ErrArg},
		{nil, wrong, 16, api.ErrArg},
		{over, good, 1, api.ErrDown},
		{over, wrong, 16, api.ErrDown},
		{over, nil, 16, api.ErrDown},
		{s, wrong, 16, api.ErrNone},
		{s, make([]api.Node, 65), 1, api.ErrLimit},
		{s, []api.Node{node("a", 1, "b"), node("b", 1, "a")}, 2, api.ErrCycle},
		{s, []api.Node{source("")}, 2, api.ErrArg},
	} {
		before, overBefore := told(fs), told(overFS)
		steps, e := crew.Run(x.s, x.l, nil, 1, x.workers)
		if e != x.want || len(steps) != 0 {
			t.Errorf("%d: Run = %v %d, want %d", i, steps, e, x.want)
		}
		if told(fs) != before || told(overFS) != overBefore || len(s.Records()) > 0 {
			t.Fatalf("%d: it has changed something", i)
		}
	}
	for _, workers := range []int{1, 16} {
		if steps, e := crew.Run(s, nil, nil, 1, workers); e != api.OK || len(steps) != 0 {
			t.Errorf("Run of no nodes = %v %d", steps, e)
		}
	}
}

// TestJoined: no worker goes on behind an answer.
func TestJoined(t *testing.T) {
	pick := chance(3)
	before := runtime.NumGoroutine()
	for range 50 {
		s := opened(t, vfs.New(), 3)
		if _, e := crew.Run(s, right(pick, 30), nil, 1, 16); e != api.OK {
			t.Fatal(e)
		}
	}
	// One that is done may still be on its way out.
	for range 1000000 {
		if runtime.NumGoroutine() <= before {
			return
		}
		runtime.Gosched()
	}
	t.Errorf("%d go on, %d did ahead", runtime.NumGoroutine(), before)
}

// TestSideBySide: builds of unlike stores may go on at the same time, of the same nodes and given contents.
func TestSideBySide(t *testing.T) {
	pick := chance(4)
	l, given := right(pick, 60), some(pick)
	want, _ := rule.Clean(l, given)
	var all sync.WaitGroup
	for i := range 8 {
		all.Go(func() {
			s, _ := store.Open(vfs.New(), 3)
			if steps, e := crew.Run(s, l, given, 1, 1+2*i); e != api.OK || !slices.Equal(steps, want) {
				t.Errorf("Run = %v %d", steps, e)
			}
		})
	}
	all.Wait()
}

// waved: the waves of a graph that may be, in the words of the chapter, each as its names, rising, behind each other.
func waved(l []api.Node) string {
	s := ""
	var ahead, last []string
	for len(ahead) < len(l) {
		var wave []string
		for _, n := range l {
			in := func(names []string) func(string) bool {
				return func(d string) bool { return slices.Contains(names, d) }
			}
			fits := len(n.Deps) == 0 && len(ahead) == 0
			if len(n.Deps) > 0 && slices.ContainsFunc(n.Deps, in(last)) {
				fits = !slices.ContainsFunc(n.Deps, func(d string) bool { return !slices.Contains(ahead, d) })
			}
			if fits {
				wave = append(wave, n.Name)
			}
		}
		slices.Sort(wave)
		s += strings.Join(wave, " ") + ";"
		ahead, last = append(ahead, wave...), wave
	}
	return s
}

// TestWaves: against the words of the chapter; the order of nodes that are handed in doesn't count.
func TestWaves(t *testing.T) {
	pick := chance(5)
	for range 1000 {
		l := right(pick, 20)
		want := waved(l)
		for range 2 {
			l = shuffled(pick, l)
			waves, e := crew.Waves(l)
			got := ""
			for _, wave := range waves {
				got += strings.Join(wave, " ") + ";"
			}
			if e != api.OK || got != want {
				t.Fatalf("Waves = %s %d, want %s: %v", got, e, want, l)
			}
		}
	}
	for what, x := range map[string]struct {
		l    []api.Node
		want string
	}{
		"none":                           {nil, ""},
		"no nodes":                       {[]api.Node{}, ""},
		"one":                            {[]api.Node{source("a")}, "a;"},
		"without Deps, sources or not":   {[]api.Node{source("b"), node("c", 1), node("a", 0)}, "a b c;"},
		"in a row":                       {[]api.Node{node("a", 1, "b"), node("b", 1, "c"), source("c")}, "c;b;a;"},
		"of what stands in unlike waves": {[]api.Node{node("a", 1, "s", "b"), node("b", 1, "s"), source("s"), node("c", 1, "s")}, "s;b c;a;"},
		"behind the longest way":         {[]api.Node{node("a", 1, "x"), node("x", 1, "y"), source("y"), node("z", 1, "y", "a"), source("q")}, "q y;x;a;z;"},
		"byte by byte":                   {[]api.Node{source("b"), source("\xff"), source("B"), source("ä"), source("aa"), source("a")}, "B a aa b ä \xff;"},
	} {
		waves, e := crew.Waves(x.l)
		got := ""
		for _, wave := range waves {
			got += strings.Join(wave, " ") + ";"
		}
		if e != api.OK || got != x.want {
			t.Errorf("%s: Waves = %q %d, want %q", what, got, e, x.want)
		}
	}
}

// TestWavesRefused: layer 21's errors, and no waves.
func TestWavesRefused(t *testing.T) {
	for i, l := range [][]api.Node{
		make([]api.Node, 65),
		{source("a"), source("")},
		{source("a"), node("b", 1, "a", "c")},
		{source("a"), node("b", 1, "c"), node("c", 1, "b")},
	} {
		want := graph.Check(l)
		if waves, e := crew.Waves(l); want == api.OK || e != want || len(waves) != 0 {
			t.Errorf("%d: Waves = %q %d, want %d", i, waves, e, want)
		}
	}
}

// TestNothingIsKept: what is handed in isn't changed, and what is answered may be written into.
func TestNothingIsKept(t *testing.T) {
	l := []api.Node{source("b"), source("a"), node("c", 1, "b", "a")}
	given := []api.Step{give("b", 2), give("a", 1)}
	s := opened(t, vfs.New(), 3)
	steps, _ := crew.Run(s, l, given, 7, 3)
	waves, _ := crew.Waves(l)
	for _, wave := range waves {
		clear(wave)
		_ = append(wave, "x")
	}
	clear(steps)
	if l[0].Name != "b" || l[1].Name != "a" || !slices.Equal(l[2].Deps, []string{"b", "a"}) || given[0] != give("b", 2) || given[1] != give("a", 1) {
		t.Errorf("%v, %v", l, given)
	}
	l[2].Deps[0] = "x"
	if r, ok := s.Find("c"); !ok || r.Deps[0].Name != "b" {
		t.Errorf("the trace is %v", r)
	}
}
