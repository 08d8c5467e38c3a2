package compact_test

import (
	"math"
	"slices"
	"strconv"
	"testing"

	"tephra/api"
	"tephra/codec"
	"tephra/compact"
	"tephra/fold"
	"tephra/record"
	"tephra/store"
	"tephra/vfs"
)

// trace: a trace of a target that may be at all versions, told apart from others of it by a number.
func trace(target string, number uint64) api.Record {
	return api.Record{Kind: api.Trace, Target: target, Rule: number, Deps: []api.Dep{{Name: "dep", Hash: number}}, Out: number}
}

// gone: the record that a target is.
func gone(target string) api.Record {
	return api.Record{Kind: api.Gone, Target: target}
}

// wantList holds records against those that are wanted.
func wantList(t *testing.T, what string, got, want []api.Record) {
	t.Helper()
	if !slices.EqualFunc(got, want, record.Same) {
		t.Fatalf("%s = %v, want %v", what, got, want)
	}
}

// wantE holds what a call answers against an error.
func wantE(t *testing.T, what string, e, want api.Errno) {
	t.Helper()
	if e != want {
		t.Fatalf("%s = %d, want %d", what, e, want)
	}
}

// chance: numbers that look like chance.
func chance(seed uint64) func(n int) int {
	x := seed
	return func(n int) int {
		x = x*6364136223846793005 + 1442695040888963407
		return int(x >> 33 % uint64(n))
	}
}

// some: that many records of a few targets, some of them of no kind, if odd ones are wanted.
func some(pick func(int) int, size int, odd bool) []api.Record {
	l := []api.Record{}
	for i := range size {
		r := trace([]string{"a", "b", "c", "A", "\xff", "a\x00"}[pick(6)], uint64(i))
		switch pick(8) {
		case 0, 1:
			r = gone(r.Target)
		case 2:
			if odd {
				r.Kind = []int{0, 3, -1, math.MaxInt, math.MinInt}[pick(5)]
			}
		}
		l = append(l, r)
	}
	return l
}

// wasteful: records with what can be done without, and what they come to.
func wasteful() (l, state []api.Record) {
	l = []api.Record{trace("b", 1), trace("a", 2), trace("b", 3), trace("c", 4), gone("a"), gone("c"), trace("c", 5)}
	return l, []api.Record{trace("b", 3), trace("c", 5)}
}

func TestOfTheChapter(t *testing.T) {
	l := []api.Record{trace("a", 1), trace("a", 2)}
	wantList(t, "Records", compact.Records(l), l[1:])
	if n := compact.Waste(l); n != 1 {
		t.Errorf("Waste = %d", n)
	}
}

func TestRecordsAndWaste(t *testing.T) {
	all, state := wasteful()
	odd := trace("a", 1)
	odd.Kind = 3
	for i, x := range []struct {
		l, want []api.Record
		waste   int
	}{
		{nil, nil, 0},
		{[]api.Record{}, nil, 0},
		{[]api.Record{trace("a", 1)}, []api.Record{trace("a", 1)}, 0},
		{[]api.Record{trace("b", 1), trace("a", 1)}, []api.Record{trace("a", 1), trace("b", 1)}, 0},
		{[]api.Record{gone("a")}, nil, 1},
		{[]api.Record{trace("a", 1), gone("a")}, nil, 2},
		{[]api.Record{gone("a"), trace("a", 1)}, []api.Record{trace("a", 1)}, 1},
		{all, state, 5},
		{state, state, 0},
		{[]api.Record{odd, {}, trace("a", 1)}, []api.Record{trace("a", 1)}, 2},
	} {
		wantList(t, strconv.Itoa(i)+": Records", compact.Records(x.l), x.want)
		if n := compact.Waste(x.l); n != x.waste {
			t.Errorf("%d: Waste = %d, want %d", i, n, x.waste)
		}
	}
}

// TestTheSameMap: what is compacted has the same fold, one record of each target at most, and is without waste.
func TestTheSameMap(t *testing.T) {
	for seed := range uint64(300) {
		l := some(chance(seed), 25, true)
		got := compact.Records(l)
		wantList(t, "Records", got, fold.Of(l))
		wantList(t, "the fold of what is compacted", fold.Of(got), fold.Of(l))
		targets := map[string]bool{}
		for _, r := range got {
			if targets[r.Target] {
				t.Fatalf("Records(%v) = %v: two of %q", l, got, r.Target)
			}
			targets[r.Target] = true
		}
		if n := compact.Waste(l); n != len(l)-len(got) || compact.Waste(got) != 0 {
			t.Fatalf("Waste(%v) = %d, and %d of what is compacted", l, n, compact.Waste(got))
		}
	}
}

// files: a file system with a journal of records, so many of its last bytes not safe.
func files(t *testing.T, version int, l []api.Record, unsafe int) *vfs.FS {
	t.Helper()
	b, e := codec.Put(version, l)
	wantE(t, "codec.Put", e, api.OK)
	fs := vfs.New()
	fs.Append("log", b[:len(b)-unsafe])
	fs.Sync("log")
	if unsafe > 0 {
		fs.Append("log", b[len(b)-unsafe:])
	}
	return fs
}

// told: all that a file system tells.
func told(fs *vfs.FS) string {
	s := "down " + strconv.FormatBool(fs.Down())
	for _, name := range fs.Names() {
		b, _ := fs.Read(name)
		s += "; " + strconv.Quote(name) + " " + strconv.Quote(string(b)) + " safe " + strconv.Itoa(fs.Safe(name))
	}
	return s
}

// opened: the store on a file system.
func opened(t *testing.T, fs *vfs.FS) *store.Store {
	t.Helper()
	s, e := store.Open(fs, 1)
	wantE(t, "Open", e, api.OK)
	return s
}

func TestDo(t *testing.T) {
	for version := 1; version <= 3; version++ {
		for seed := range uint64(40) {
			l := some(chance(seed), int(seed)/2, false)
			fs := files(t, version, l, 0)
			s := opened(t, fs)
			for range 2 {
				wantE(t, "Do", compact.Do(s), api.OK)
				wantList(t, "its records", s.Records(), fold.Of(l))
				if s.Version() != version || told(fs) != told(files(t, version, fold.Of(l), 0)) {
					t.Fatalf("Do: the version %d, %s", s.Version(), told(fs))
				}
			}
			// It goes on from there.
			wantE(t, "Put", s.Put(trace("a", 9)), api.OK)
			again := opened(t, fs)
			wantList(t, "opened again", again.Records(), append(fold.Of(l), trace("a", 9)))
		}
	}
}

// TestDoKeepsAllOfARecord: what is of the versions 2 and 3 alone stays, too.
func TestDoKeepsAllOfARecord(t *testing.T) {
	r := trace("a", math.MaxUint64)
	r.When, r.Tag, r.Deps[0].Order = math.MaxUint64, "t", true
	fs := files(t, 3, []api.Record{trace("a", 1), r}, 0)
	wantE(t, "Do", compact.Do(opened(t, fs)), api.OK)
	wantList(t, "opened again", opened(t, fs).Records(), []api.Record{r})
}

// TestDoActByAct: with each act failing, and fallen at, it does and answers just what Rewrite does.
func TestDoActByAct(t *testing.T) {
	l, state := wasteful()
	for version := 1; version <= 3; version++ {
		for n := -1; n < 6; n++ {
			for _, ask := range []func(*vfs.FS, int){(*vfs.FS).Fail, (*vfs.FS).Fall} {
				for _, left := range []bool{false, true} {
					fs, other := files(t, version, l, 9), files(t, version, l, 9)
					s, o := opened(t, fs), opened(t, other)
					if left {
						fs.Append("new", []byte("left"))
						other.Append("new", []byte("left"))
					}
					ask(fs, n)
					ask(other, n)
					wantE(t, "Do", compact.Do(s), o.Rewrite(version, state))
					wantList(t, "its records", s.Records(), o.Records())
					if told(fs) != told(other) || s.Over() != o.Over() {
						t.Fatalf("Do, act %d:\n%s, over %v, want\n%s, %v", n, told(fs), s.Over(), told(other), o.Over())
					}
				}
			}
		}
	}
}

func TestDoRefused(t *testing.T) {
	wantE(t, "Do of none", compact.Do(nil), api.ErrArg)
	l, _ := wasteful()
	fs := files(t, 2, l, 0)
	s := opened(t, fs)
	fs.Fall(0)
	wantE(t, "Commit", s.Commit(), api.ErrDown)
	fs.Crash()
	before := told(fs)
	wantE(t, "Do of one that is over", compact.Do(s), api.ErrDown)
	wantList(t, "its records", s.Records(), l)
	if told(fs) != before {
		t.Fatalf("one that is over was compacted: %s", told(fs))
	}
	if !compact.Due(s, 4) || compact.Due(s, 5) {
		t.Fatal("Due of one that is over isn't as ahead")
	}
}

func TestDue(t *testing.T) {
	l, state := wasteful()
	for _, x := range []struct {
		l     []api.Record
		waste int
	}{{nil, 0}, {state, 0}, {l, 5}, {l[:3], 1}} {
		fs := files(t, 3, x.l, 0)
		s := opened(t, fs)
		before := told(fs)
		for _, most := range []int{math.MinInt, -6, -5, -1, 0, 1, 2, 3, 4, 5, 6, math.MaxInt} {
			want := x.waste > 0 && x.waste > most
			if got := compact.Due(s, most); got != want {
				t.Errorf("Due(%d) = %v of the waste %d", most, got, x.waste)
			}
			if compact.Due(nil, most) {
				t.Errorf("Due(%d) of none", most)
			}
		}
		wantE(t, "Do", compact.Do(opened(t, fs.Copy())), api.OK)
		if told(fs) != before {
			t.Errorf("Due changed it to %s", told(fs))
		}
		wantE(t, "Do", compact.Do(s), api.OK)
		if compact.Due(s, -1) {
			t.Error("it is due again at once")
		}
	}
}

// crashed: what comes of a file system by a crash, whatever is kept of the one file of which not all is safe.
func crashed(fs *vfs.FS) []*vfs.FS {
	all := []*vfs.FS{}
	for keep := range 200 {
		other := fs.Copy()
		other.Crash(keep)
		all = append(all, other)
	}
	return all
}

// TestEither: whatever act fails, or is fallen at, and whatever is kept then, a store that was committed is opened with its records, or with what they come to.
func TestEither(t *testing.T) {
	l, state := wasteful()
	for version := 1; version <= 3; version++ {
		counts := [2]int{}
		for n := range 6 {
			for _, ask := range []func(*vfs.FS, int){(*vfs.FS).Fail, (*vfs.FS).Fall} {
				fs := files(t, version, l, 9)
				s := opened(t, fs)
				wantE(t, "Commit", s.Commit(), api.OK)
				ask(fs, n)
				all := []*vfs.FS{}
				if compact.Do(s) != api.ErrDown {
					fs.Fail(-1)
					fs.Fall(-1)
					all = append(all, fs.Copy())
				}
				for _, one := range append(all, crashed(fs)...) {
					again := opened(t, one)
					got := again.Records()
					isOld, isNew := slices.EqualFunc(got, l, record.Same), slices.EqualFunc(got, state, record.Same)
					if !isOld && !isNew || again.Version() != version {
						t.Fatalf("it is opened with %v", got)
					}
					if isNew {
						counts[1]++
					} else {
						counts[0]++
					}
					wantList(t, "its fold", again.All(), state)
					wantE(t, "Do again", compact.Do(again), api.OK)
					wantList(t, "compacted again", opened(t, one).Records(), state)
				}
			}
		}
		if counts[0] == 0 || counts[1] == 0 {
			t.Fatalf("of both there were %v", counts)
		}
	}
}

// TestNothingIsShared: what is handed in isn't changed, and what is answered is new memory.
func TestNothingIsShared(t *testing.T) {
	l, state := wasteful()
	got := compact.Records(l)
	compact.Waste(l)
	for _, r := range got {
		clear(r.Deps)
	}
	clear(got)
	kept, _ := wasteful()
	wantList(t, "what was handed in", l, kept)
	wantList(t, "Records again", compact.Records(l), state)
	s := opened(t, files(t, 3, l, 0))
	compact.Due(s, 1)
	wantList(t, "its records", s.Records(), kept)
}
