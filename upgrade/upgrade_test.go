package upgrade_test

import (
	"math"
	"slices"
	"strconv"
	"testing"

	"tephra/api"
	"tephra/codec"
	"tephra/fold"
	"tephra/record"
	"tephra/store"
	"tephra/upgrade"
	"tephra/vfs"
)

// gone: the record that a target is.
func gone(target string) api.Record {
	return api.Record{Kind: api.Gone, Target: target}
}

// records: some that may be at a version.
func records(version int) []api.Record {
	l := []api.Record{
		{Kind: api.Trace, Target: "a", Rule: 300, Deps: []api.Dep{{Name: "b", Hash: 5}, {Name: "c", Hash: 1 << 63}}, Out: 7},
		gone("b"),
		{Kind: api.Trace, Target: "b", Rule: 1, Deps: []api.Dep{{Name: "c"}}, Out: math.MaxUint64},
		gone("b"),
		{Kind: api.Trace, Target: "a"},
	}
	if version >= 2 {
		l[2].When = 77
	}
	if version >= 3 {
		l[0].Tag, l[2].Tag = "b", "t"
		l[0].Deps[1].Order = true
	}
	return l
}

// moved: records in the words of the chapter, moved from a version to another one.
func moved(from, to int, l []api.Record) []api.Record {
	all := []api.Record{}
	for _, r := range l {
		r = record.Clone(r)
		if r.Kind == 1 && from == 1 && to >= 2 {
			r.When = 1
		}
		if r.Kind == 1 && from <= 2 && to == 3 {
			r.Tag = "old"
		}
		all = append(all, r)
	}
	return all
}

// wantE holds what a call answers against an error.
func wantE(t *testing.T, what string, e, want api.Errno) {
	t.Helper()
	if e != want {
		t.Fatalf("%s = %d, want %d", what, e, want)
	}
}

// files: a file system with a journal of records, all of it safe.
func files(t *testing.T, version int, l []api.Record) *vfs.FS {
	t.Helper()
	b, e := codec.Put(version, l)
	wantE(t, "codec.Put", e, api.OK)
	fs := vfs.New()
	fs.Append("log", b)
	fs.Sync("log")
	return fs
}

// told: all that a file system tells.
func told(fs *vfs.FS) string {
	s := "down " + strconv.FormatBool(fs.Down())
	for _, name := range fs.Names() {
		b, _ := fs.Read(name)
		s += "; " + strconv.Quote(name) + " " + strconv.Quote(string(b)) + " safe " + strconv.Itoa(fs.Safe(name))
	}
	return s
}

// opened: the store on a file system.
func opened(t *testing.T, fs *vfs.FS) *store.Store {
	t.Helper()
	s, e := store.Open(fs, 1)
	wantE(t, "Open", e, api.OK)
	return s
}

// is tells whether a store has a version and records.
func is(s *store.Store, version int, l []api.Record) bool {
	return s.Version() == version && slices.EqualFunc(s.Records(), l, record.Same)
}

// wantStore holds a store against a version and records.
func wantStore(t *testing.T, what string, s *store.Store, version int, l []api.Record) {
	t.Helper()
	if !is(s, version, l) {
		t.Fatalf("%s: the store has %d %v, want %d %v", what, s.Version(), s.Records(), version, l)
	}
}

// move: one of both calls.
type move = func(s *store.Store, version int) api.Errno

// moves: both calls, by their names.
var moves = map[string]move{"Do": upgrade.Do, "Steps": upgrade.Steps}

func TestOfTheChapter(t *testing.T) {
	for name, move := range moves {
		s := opened(t, vfs.New())
		r := api.Record{Kind: api.Trace, Target: "a"}
		wantE(t, "Put", s.Put(r), api.OK)
		wantE(t, name, move(s, 3), api.OK)
		if r, ok := s.Find("a"); !ok || r.When != 1 || r.Tag != "old" || s.Version() != 3 {
			t.Errorf("%s: Find = %v %v, the version %d", name, r, ok, s.Version())
		}
	}
}

// TestTheSame: by steps, or at once, the same comes of it.
func TestTheSame(t *testing.T) {
	for from := 1; from <= 3; from++ {
		for to := from; to <= 3; to++ {
			for size := range 6 {
				l := records(from)[:size]
				for name, move := range moves {
					fs := files(t, from, l)
					s := opened(t, fs)
					wantE(t, name, move(s, to), api.OK)
					wantStore(t, name, s, to, moved(from, to, l))
					if want := told(files(t, to, moved(from, to, l))); told(fs) != want {
						t.Fatalf("%s: %s, want %s", name, told(fs), want)
					}
					wantE(t, "Put", s.Put(api.Record{Kind: api.Trace, Target: "more"}), api.OK)
					wantStore(t, name, opened(t, fs), to, append(moved(from, to, l), api.Record{Kind: api.Trace, Target: "more"}))
				}
			}
		}
	}
}

// TestUncommitted: what isn't committed is moved with the others, and is safe then.
func TestUncommitted(t *testing.T) {
	for name, move := range moves {
		fs := vfs.New()
		s := opened(t, fs)
		for _, r := range records(1) {
			if r.Kind == api.Trace {
				wantE(t, "Put", s.Put(r), api.OK)
			}
		}
		l := s.Records()
		wantE(t, name, move(s, 2), api.OK)
		fs.Crash()
		wantStore(t, name, opened(t, fs), 2, moved(1, 2, l))
	}
}

// TestActByAct: with each act failing, and fallen at, both do and answer just what the Rewrites do, one behind the other up to the first error.
func TestActByAct(t *testing.T) {
	for from := 1; from <= 3; from++ {
		for to := from; to <= 3; to++ {
			at := []int{to}
			by := []int{}
			for next := from + 1; next <= to; next++ {
				by = append(by, next)
			}
			for n := -1; n < 9; n++ {
				wantActs(t, "Do", upgrade.Do, from, at, n)
				wantActs(t, "Steps", upgrade.Steps, from, by, n)
			}
		}
	}
}

// wantActs holds a move against Rewrites with these versions, when the act fails, or is fallen at, behind so many.
func wantActs(t *testing.T, what string, move move, from int, versions []int, n int) {
	t.Helper()
	for _, ask := range []func(*vfs.FS, int){(*vfs.FS).Fail, (*vfs.FS).Fall} {
		for _, left := range []bool{false, true} {
			fs, other := files(t, from, records(from)), files(t, from, records(from))
			s, o := opened(t, fs), opened(t, other)
			if left {
				fs.Append("new", []byte("left"))
				other.Append("new", []byte("left"))
			}
			ask(fs, n)
			ask(other, n)
			to := from
			if len(versions) > 0 {
				to = versions[len(versions)-1]
			}
			want := api.OK
			for _, version := range versions {
				if want == api.OK {
					want = o.Rewrite(version, moved(from, version, records(from)))
				}
			}
			wantE(t, what, move(s, to), want)
			wantStore(t, what, s, o.Version(), o.Records())
			if told(fs) != told(other) || s.Over() != o.Over() {
				t.Fatalf("%s from %d to %d, act %d:\n%s, over %v, want\n%s, %v", what, from, to, n, told(fs), s.Over(), told(other), o.Over())
			}
			// What is asked of later acts is asked of the same ones.
			for range 9 {
				wantE(t, "an act behind it", fs.Append("more", nil), other.Append("more", nil))
			}
		}
	}
}

// TestRefused: which error is told first, and that nothing is done.
func TestRefused(t *testing.T) {
	for name, move := range moves {
		for _, to := range []int{math.MinInt, -1, 0, 1, 2, 3, 4, 257, math.MaxInt} {
			wantE(t, name+" of none", move(nil, to), api.ErrArg)
			for from := 1; from <= 3; from++ {
				fs := files(t, from, records(from))
				s := opened(t, fs)
				before := told(fs)
				if to < from || to > 3 {
					wantE(t, name, move(s, to), api.ErrVersion)
					wantStore(t, name, s, from, records(from))
					if told(fs) != before {
						t.Fatalf("%s changed it to %s", name, told(fs))
					}
				}
				fs.Fall(0)
				wantE(t, "Commit", s.Commit(), api.ErrDown)
				fs.Crash()
				wantE(t, name+" of one that is over", move(s, to), api.ErrDown)
				wantStore(t, name, s, from, records(from))
				if told(fs) != before {
					t.Fatalf("%s changed one that is over to %s", name, told(fs))
				}
			}
		}
	}
}

// crashed: what comes of a file system by a crash, whatever is kept of the one file of which not all is safe.
func crashed(fs *vfs.FS) []*vfs.FS {
	all := []*vfs.FS{}
	for keep := range 200 {
		other := fs.Copy()
		other.Crash(keep)
		all = append(all, other)
	}
	return all
}

// TestEither: whatever act fails, or is fallen at, and whatever is kept then, a store that was committed is opened as it was, or moved (by Steps, some of them, or all); and it can be moved on.
func TestEither(t *testing.T) {
	for name, move := range moves {
		for from := 1; from < 3; from++ {
			to := 3
			counts := map[int]int{}
			for n := range 8 {
				for _, ask := range []func(*vfs.FS, int){(*vfs.FS).Fail, (*vfs.FS).Fall} {
					fs := files(t, from, records(from))
					s := opened(t, fs)
					ask(fs, n)
					all := []*vfs.FS{}
					if move(s, to) != api.ErrDown {
						fs.Fail(-1)
						fs.Fall(-1)
						all = append(all, fs.Copy())
					}
					for _, one := range append(all, crashed(fs)...) {
						again := opened(t, one)
						version := again.Version()
						counts[version]++
						if name == "Do" && version != from && version != to {
							t.Fatalf("Do: it is opened with the version %d", version)
						}
						wantStore(t, name, again, version, moved(from, version, records(from)))
						wantE(t, name+" again", move(again, to), api.OK)
						wantStore(t, name, opened(t, one), to, moved(from, to, records(from)))
					}
				}
			}
			if counts[from] == 0 || counts[to] == 0 {
				t.Fatalf("of both there were %v", counts)
			}
		}
	}
}

// TestTheMap: what a store answers is moved record by record.
func TestTheMap(t *testing.T) {
	for name, move := range moves {
		for from := 1; from <= 3; from++ {
			s := opened(t, files(t, from, records(from)))
			state := s.All()
			wantE(t, name, move(s, 3), api.OK)
			if !fold.Same(s.All(), moved(from, 3, state)) {
				t.Fatalf("%s: All() = %v, of %v", name, s.All(), state)
			}
		}
	}
}
