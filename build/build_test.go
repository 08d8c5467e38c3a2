package build_test

import (
	"math"
	"slices"
	"strconv"
	"testing"

	"tephra/api"
	"tephra/build"
	"tephra/digest"
	"tephra/dirty"
	"tephra/record"
	"tephra/rule"
	"tephra/store"
	"tephra/vfs"
)

func TestOfTheChapter(t *testing.T) {
	l := []api.Node{node("c", 2, "b", "a"), node("b", 1, "a"), source("a")}
	for version := 1; version <= 3; version++ {
		fs := vfs.New()
		s := opened(t, fs, version)
		given := []api.Step{give("a", 5)}
		b := digest.Fold(1, 5)
		c := digest.Fold(2, b, 5)
		steps, e := build.Run(s, l, given, 77)
		wantSame(t, "Run", steps, e, []api.Step{give("a", 5), {Name: "b", Ran: true, Contents: b}, {Name: "c", Ran: true, Contents: c}}, api.OK)
		when := uint64(77)
		if version == 1 {
			when = 0
		}
		want := []api.Record{
			{Kind: api.Trace, Target: "b", Rule: 1, Deps: []api.Dep{{Name: "a", Hash: digest.Of(5)}}, Out: digest.Of(b), When: when},
			{Kind: api.Trace, Target: "c", Rule: 2, Deps: []api.Dep{{Name: "b", Hash: digest.Of(b)}, {Name: "a", Hash: digest.Of(5)}}, Out: digest.Of(c), When: when},
		}
		if !slices.EqualFunc(s.Records(), want, record.Same) || told(fs) != told(files(t, version, want)) {
			t.Fatalf("the store has %v, want %v", s.Records(), want)
		}
		steps, e = build.Run(s, l, given, 78)
		wantSame(t, "Run again", steps, e, []api.Step{give("a", 5), give("b", b), give("c", c)}, api.OK)
		if told(fs) != told(files(t, version, want)) {
			t.Fatalf("Run again has changed it to %s", told(fs))
		}
	}
}

// TestRun: all three calls, by stores of all versions, against the words of the chapter.
func TestRun(t *testing.T) {
	pick := chance(1)
	counts := [5]int{}
	for i := range 1500 {
		version := 1 + i%3
		l, given, when := right(pick), some(pick), []uint64{0, 5, math.MaxUint64}[pick(3)]
		records := stale(pick, version, l, given)
		fs, other := files(t, version, records), files(t, version, records)
		s, o := opened(t, fs, version), opened(t, other, version)
		m := modelled(version, records, l, given, when)
		for range 2 {
			steps, e := build.Plan(s, l, given)
			wantSame(t, "Plan", steps, e, m.steps, api.OK)
		}
		for _, n := range l {
			why, e := build.Why(s, l, given, n.Name)
			if e != api.OK || why != m.why[n.Name] {
				t.Fatalf("Why(%q) = %d %d, want %d: %v, %v, %v", n.Name, why, e, m.why[n.Name], l, given, records)
			}
			counts[why]++
		}
		for _, name := range []string{"", "x", "11", "other"} {
			if why, e := build.Why(s, l, given, name); e != api.ErrNone || why != 0 {
				t.Fatalf("Why(%q) = %d %d", name, why, e)
			}
		}
		wantAlike(t, "Plan, and Why", s, fs, o, other)
		steps, e := build.Run(s, l, given, when)
		want, wantE := m.puts(o)
		wantSame(t, "Run", steps, e, want, wantE)
		wantAlike(t, "Run", s, fs, o, other)
	}
	for i, count := range counts {
		if count < 50 {
			t.Errorf("%d came %d times", i, count)
		}
	}
}

// TestRunActByAct: with each act failing, and fallen at.
func TestRunActByAct(t *testing.T) {
	pick := chance(2)
	for i := range 300 {
		version := 1 + i%3
		l, given := right(pick), some(pick)
		records := stale(pick, version, l, given)
		m := modelled(version, records, l, given, 5)
		for n := range len(m.traces) + 3 {
			for _, ask := range []func(*vfs.FS){func(fs *vfs.FS) { fs.Fail(n) }, func(fs *vfs.FS) { fs.Fall(n) }, func(fs *vfs.FS) { fs.Fail(n); fs.Fall(n + 1) }} {
				fs, other := files(t, version, records), files(t, version, records)
				s, o := opened(t, fs, version), opened(t, other, version)
				ask(fs)
				ask(other)
				steps, e := build.Run(s, l, given, 5)
				want, wantE := m.puts(o)
				wantSame(t, "Run", steps, e, want, wantE)
				wantAlike(t, "Run", s, fs, o, other)
				// What was asked of acts that didn't come is asked of the same ones.
				for range 3 {
					if e, want := fs.Append("more", nil), other.Append("more", nil); e != want {
						t.Fatalf("act %d: an act behind it answers %d, want %d", n, e, want)
					}
				}
			}
		}
	}
}

// TestNothingToPut: a build in which nothing is run makes nothing safe either.
func TestNothingToPut(t *testing.T) {
	fs := vfs.New()
	s := opened(t, fs, 2)
	l := []api.Node{source("a"), source("b")}
	wantE(t, "Put", s.Put(api.Record{Kind: api.Trace, Target: "x"}), api.OK)
	fs.Fail(0)
	steps, e := build.Run(s, l, []api.Step{give("b", 1)}, 5)
	wantSame(t, "Run", steps, e, []api.Step{give("a", 0), give("b", 1)}, api.OK)
	if fs.Safe("log") != 8 {
		t.Errorf("%d bytes are safe", fs.Safe("log"))
	}
	steps, e = build.Run(s, append(l, node("c", 1)), nil, 5)
	wantSame(t, "Run", steps, e, nil, api.ErrIO)
	for _, empty := range [][]api.Node{nil, {}} {
		steps, e = build.Run(s, empty, nil, 5)
		wantSame(t, "Run of no nodes", steps, e, nil, api.OK)
		steps, e = build.Plan(s, empty, nil)
		wantSame(t, "Plan of no nodes", steps, e, nil, api.OK)
	}
}

// calls: all three, of which Why asks of a name.
func calls(name string) map[string]func(s *store.Store, l []api.Node) ([]api.Step, api.Errno) {
	return map[string]func(s *store.Store, l []api.Node) ([]api.Step, api.Errno){
		"Run":  func(s *store.Store, l []api.Node) ([]api.Step, api.Errno) { return build.Run(s, l, nil, 5) },
		"Plan": func(s *store.Store, l []api.Node) ([]api.Step, api.Errno) { return build.Plan(s, l, nil) },
		"Why": func(s *store.Store, l []api.Node) ([]api.Step, api.Errno) {
			why, e := build.Why(s, l, nil, name)
			return make([]api.Step, why), e
		},
	}
}

// TestRefused: which error is told first, and that nothing is written.
func TestRefused(t *testing.T) {
	good := []api.Node{source("a"), node("b", 1, "a")}
	for name, call := range calls("nowhere") {
		for i, l := range refusedGraphs() {
			_, want := rule.Clean(l, nil)
			if want == api.OK {
				t.Fatalf("graph %d may be", i)
			}
			steps, e := call(nil, l)
			wantSame(t, name+" of no store", steps, e, nil, api.ErrArg)
			fs := vfs.New()
			s := opened(t, fs, 2)
			before := told(fs)
			steps, e = call(s, l)
			wantSame(t, name, steps, e, nil, want)
			if told(fs) != before || len(s.Records()) > 0 {
				t.Fatalf("%s: graph %d changed it to %s", name, i, told(fs))
			}
			fs.Fall(0)
			wantE(t, "Commit", s.Commit(), api.ErrDown)
			fs.Crash()
			before = told(fs)
			steps, e = call(s, l)
			wantSame(t, name+" of one that is over", steps, e, nil, api.ErrDown)
			steps, e = call(s, good)
			wantSame(t, name+" of one that is over", steps, e, nil, api.ErrDown)
			if told(fs) != before {
				t.Fatalf("%s changed one that is over to %s", name, told(fs))
			}
		}
		steps, e := call(nil, good)
		wantSame(t, name+" of no store", steps, e, nil, api.ErrArg)
	}
	s := opened(t, vfs.New(), 3)
	for name, want := range map[string]int{"a": 0, "b": 1} {
		if why, e := build.Why(s, good, nil, name); e != api.OK || why != want {
			t.Errorf("Why(%q) = %d %d, want %d", name, why, e, want)
		}
	}
}

// TestAsIfClean: by a store that had nothing but builds, and crashes behind which it was opened again, contents are those of the clean build; at once again nothing is run, and nothing is put.
func TestAsIfClean(t *testing.T) {
	pick := chance(3)
	kept, ran := 0, 0
	for i := range 150 {
		fs := vfs.New()
		s := opened(t, fs, 1+i%3)
		for j := range 12 {
			l, given := right(pick), some(pick)
			clean, _ := rule.Clean(l, given)
			switch pick(6) {
			case 0:
				fs.Fail(pick(6))
			case 1:
				fs.Fall(pick(6))
			}
			steps, e := build.Run(s, l, given, uint64(j))
			if e != api.OK {
				fs.Crash(pick(80))
				s = opened(t, fs, 1)
				steps, e = build.Run(s, l, given, uint64(j))
			}
			wantE(t, "Run", e, api.OK)
			for k, step := range steps {
				if step.Name != clean[k].Name || step.Contents != clean[k].Contents || step.Ran && !clean[k].Ran {
					t.Fatalf("Run = %v, want the contents of %v", steps, clean)
				}
				if clean[k].Ran && !step.Ran {
					kept++
				}
			}
			before := told(fs)
			fs.Fail(0)
			again, e := build.Run(s, l, given, uint64(j+1))
			wantE(t, "Run again", e, api.OK)
			fs.Fail(-1)
			for k, step := range again {
				if step.Ran || step.Contents != steps[k].Contents {
					t.Fatalf("Run again = %v, behind %v", again, steps)
				}
				if steps[k].Ran {
					ran++
				}
			}
			if told(fs) != before {
				t.Fatalf("Run again changed it to %s", told(fs))
			}
		}
	}
	if kept < 300 || ran < 300 {
		t.Errorf("%d were kept, %d ran", kept, ran)
	}
}

// TestOnlyIfNeedBe: what is run isn't clean by the store as it was; what isn't is, and its trace is behind the build as it was ahead.
func TestOnlyIfNeedBe(t *testing.T) {
	pick := chance(4)
	for i := range 900 {
		l, given, version := right(pick), some(pick), 1+i%3
		s := opened(t, files(t, version, stale(pick, version, l, some(pick))), version)
		before := s.All()
		steps, e := build.Run(s, l, given, 9)
		wantE(t, "Run", e, api.OK)
		contents := map[string]uint64{}
		for _, step := range steps {
			contents[step.Name] = step.Contents
		}
		for _, n := range l {
			deps := []uint64{}
			for _, d := range n.Deps {
				deps = append(deps, contents[d])
			}
			ran := slices.Contains(steps, api.Step{Name: n.Name, Ran: true, Contents: contents[n.Name]})
			if why := dirty.Why(n, before, dirty.Hashes(deps)); ran != (why != 0) {
				t.Fatalf("%q was run: %v, but it was %d: %v", n.Name, ran, why, l)
			}
			was, _ := findIn(before, n.Name)
			is, _ := s.Find(n.Name)
			if record.Same(was, is) == ran {
				t.Fatalf("%q was run: %v, its trace was %v, and is %v", n.Name, ran, was, is)
			}
			if why := dirty.Why(n, s.All(), dirty.Hashes(deps)); why != 0 {
				t.Fatalf("%q is %d behind the build", n.Name, why)
			}
		}
	}
}

// findIn: the trace of a target in a state.
func findIn(state []api.Record, target string) (api.Record, bool) {
	for _, r := range state {
		if r.Target == target {
			return r, true
		}
	}
	return api.Record{}, false
}

// TestGreat: as many nodes as may be, with as many Deps and as long names.
func TestGreat(t *testing.T) {
	l := []api.Node{}
	for i := range 64 {
		n := node(strconv.Itoa(1000+i)+string(make([]byte, 60)), math.MaxUint64)
		for j := max(0, i-16); j < i; j++ {
			n.Deps = append(n.Deps, l[j].Name)
		}
		l = append(l, n)
	}
	for version := 1; version <= 3; version++ {
		fs := vfs.New()
		s := opened(t, fs, version)
		steps, e := build.Run(s, l, nil, math.MaxUint64)
		clean, _ := rule.Clean(l, nil)
		wantSame(t, "Run", steps, e, clean, api.OK)
		if again := opened(t, fs, version); len(again.All()) != 64 {
			t.Errorf("%d traces are there", len(again.All()))
		}
	}
}

// TestNothingIsKept: what is handed in isn't changed, and what is handed in, or answered, may be written into.
func TestNothingIsKept(t *testing.T) {
	l := []api.Node{source("a"), node("b", 1, "a")}
	given := []api.Step{give("a", 5)}
	s := opened(t, vfs.New(), 3)
	steps, _ := build.Run(s, l, given, 7)
	if l[1].Deps[0] != "a" || given[0] != give("a", 5) || l[0].Name != "a" {
		t.Fatalf("%v, %v", l, given)
	}
	l[1].Deps[0], given[0].Contents = "x", 9
	clear(steps)
	r, _ := s.Find("b")
	want := api.Record{Kind: api.Trace, Target: "b", Rule: 1, Deps: []api.Dep{{Name: "a", Hash: digest.Of(5)}}, Out: digest.Of(digest.Fold(1, 5)), When: 7}
	if !record.Same(r, want) {
		t.Errorf("the trace is %v, want %v", r, want)
	}
}
