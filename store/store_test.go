package store_test

import (
	"bytes"
	"math"
	"slices"
	"strconv"
	"strings"
	"testing"

	"tephra/api"
	"tephra/codec"
	"tephra/fold"
	"tephra/frame"
	"tephra/record"
	"tephra/store"
	"tephra/vfs"
)

// trace: a trace of a target that may be at all versions, told apart from others of it by a number.
func trace(target string, number uint64) api.Record {
	return api.Record{Kind: api.Trace, Target: target, Rule: number, Deps: []api.Dep{{Name: "dep", Hash: number}, {Name: "z"}}, Out: number}
}

// gone: the record that a target is.
func gone(target string) api.Record {
	return api.Record{Kind: api.Gone, Target: target}
}

// traces: some that may be at a version, which share texts.
func traces(version int) []api.Record {
	l := []api.Record{trace("b", 300), trace("a", 1), trace("b", math.MaxUint64), {Kind: api.Trace, Target: "\x00\xff"}}
	if version >= 2 {
		l[1].When = 77
	}
	if version >= 3 {
		l[0].Tag, l[2].Tag = "a", "t"
		l[0].Deps[1].Order = true
	}
	return l
}

// never: traces that may not be at a version.
func never(version int) []api.Record {
	long := strings.Repeat("x", 65)
	l := []api.Record{trace("", 1), trace(long, 1), trace("dep", 1), trace("a", 1), trace("a", 1), trace("a", 1)}
	l[3].Tag = long
	l[4].Deps[1].Name = "dep"
	l[5].Deps = make([]api.Dep, 17)
	for i := range l[5].Deps {
		l[5].Deps[i].Name = strconv.Itoa(i)
	}
	if version < 3 {
		l = append(l, traces(3)[0], traces(3)[2])
	}
	if version < 2 {
		l = append(l, traces(2)[1])
	}
	return l
}

// noVersions: numbers that no version has.
var noVersions = []int{math.MinInt, -1, 0, 4, 257, math.MaxInt}

// fileOf: the file of records.
func fileOf(t *testing.T, version int, l []api.Record) []byte {
	t.Helper()
	b, e := codec.Put(version, l)
	if e != api.OK {
		t.Fatalf("codec.Put(%d) = %d", version, e)
	}
	return b
}

// put lays a file, all of it safe or nothing.
func put(t *testing.T, fs *vfs.FS, name string, b []byte, safe bool) {
	t.Helper()
	if e := fs.Append(name, b); e != api.OK {
		t.Fatal(e)
	}
	if safe {
		fs.Sync(name)
	}
}

// files: a file system that has these, by names, all safe.
func files(t *testing.T, all map[string][]byte) *vfs.FS {
	t.Helper()
	fs := vfs.New()
	for name, b := range all {
		put(t, fs, name, b, true)
	}
	return fs
}

// wantAlike holds a file system against another one, in all that is told of their files.
func wantAlike(t *testing.T, what string, got, want *vfs.FS) {
	t.Helper()
	if g, w := told(got), told(want); g != w {
		t.Fatalf("%s:\n%s, want\n%s", what, g, w)
	}
}

// told: all that a file system tells.
func told(fs *vfs.FS) string {
	s := "down " + strconv.FormatBool(fs.Down())
	for _, name := range fs.Names() {
		b, _ := fs.Read(name)
		s += "; " + strconv.Quote(name) + " " + strconv.Quote(string(b)) + " safe " + strconv.Itoa(fs.Safe(name))
	}
	return s
}

// wantE holds what a call answers against an error.
func wantE(t *testing.T, what string, e, want api.Errno) {
	t.Helper()
	if e != want {
		t.Fatalf("%s = %d, want %d", what, e, want)
	}
}

// opened: the store on a file system.
func opened(t *testing.T, fs *vfs.FS, version int) *store.Store {
	t.Helper()
	s, e := store.Open(fs, version)
	if e != api.OK || s == nil {
		t.Fatalf("Open = %v %d", s, e)
	}
	return s
}

// wantStore holds all that a store tells against what is wanted: its version, its records, whether it is over.
func wantStore(t *testing.T, what string, s *store.Store, version int, l []api.Record, over bool) {
	t.Helper()
	if s.Version() != version || s.Over() != over {
		t.Fatalf("%s: Version() = %d, Over() = %v, want %d and %v", what, s.Version(), s.Over(), version, over)
	}
	if got := s.Records(); !slices.EqualFunc(got, l, record.Same) {
		t.Fatalf("%s: Records() = %v, want %v", what, got, l)
	}
	state := fold.Of(l)
	if got := s.All(); !fold.Same(got, state) {
		t.Fatalf("%s: All() = %v, want %v", what, got, state)
	}
	for _, target := range []string{"a", "b", "c", "", "dep", "A", "\x00\xff", "\x00"} {
		want, there := fold.Find(state, target)
		if r, ok := s.Find(target); ok != there || !record.Same(r, want) {
			t.Fatalf("%s: Find(%q) = %v %v, want %v %v", what, target, r, ok, want, there)
		}
	}
}

func TestOfTheChapter(t *testing.T) {
	s := opened(t, vfs.New(), 2)
	wantE(t, "Put", s.Put(trace("a", 1)), api.OK)
	if r, ok := s.Find("a"); !ok || !record.Same(r, trace("a", 1)) {
		t.Errorf("Find = %v %v", r, ok)
	}
}

func TestLikeAMap(t *testing.T) {
	for version := 1; version <= 3; version++ {
		fs := vfs.New()
		s := opened(t, fs, version)
		wantStore(t, "a new one", s, version, nil, false)
		l := []api.Record{}
		for _, r := range traces(version) {
			l = append(l, r)
			wantE(t, "Put", s.Put(r), api.OK)
			wantStore(t, "behind Put", s, version, l, false)
		}
		for _, target := range []string{"a", "\x00\xff"} {
			l = append(l, gone(target))
			wantE(t, "Delete", s.Delete(target), api.OK)
			wantStore(t, "behind Delete", s, version, l, false)
			wantE(t, "Delete again", s.Delete(target), api.ErrNone)
		}
		l = append(l, traces(version)[1])
		wantE(t, "Put again", s.Put(traces(version)[1]), api.OK)
		wantAlike(t, "without Commit", fs, unsafe(t, version, l))
		wantE(t, "Commit", s.Commit(), api.OK)
		wantStore(t, "behind Commit", s, version, l, false)
		wantAlike(t, "behind Commit", fs, files(t, map[string][]byte{"log": fileOf(t, version, l)}))
		wantStore(t, "opened again", opened(t, fs, 4-version), version, l, false)
	}
}

// unsafe: a file system with a journal of which just the head is safe.
func unsafe(t *testing.T, version int, l []api.Record) *vfs.FS {
	t.Helper()
	b := fileOf(t, version, l)
	fs := files(t, map[string][]byte{"log": b[:8]})
	put(t, fs, "log", b[8:], false)
	return fs
}

// wantActs does the same by a call and by acts, one behind the other up to the first error, with each act failing, and fallen at, and when it is down; and holds both against each other.
func wantActs(t *testing.T, what string, fs *vfs.FS, call func(fs *vfs.FS) api.Errno, acts ...func(fs *vfs.FS) api.Errno) {
	t.Helper()
	for n := -1; n <= len(acts); n++ {
		for _, ask := range []func(fs *vfs.FS){func(fs *vfs.FS) { fs.Fail(n) }, func(fs *vfs.FS) { fs.Fall(n) }, func(fs *vfs.FS) { fs.Fail(n); fs.Fall(n + 1) }} {
			got, want := fs.Copy(), fs.Copy()
			ask(got)
			ask(want)
			wantE := api.OK
			for _, act := range acts {
				if wantE = act(want); wantE != api.OK {
					break
				}
			}
			if e := call(got); e != wantE {
				t.Fatalf("%s, act %d = %d, want %d", what, n, e, wantE)
			}
			wantAlike(t, what, got, want)
			// What is asked of later acts is asked of the same ones.
			for range len(acts) + 2 {
				if e, wantE := got.Append("more", []byte("b")), want.Append("more", []byte("b")); e != wantE {
					t.Fatalf("%s, act %d: an act behind it answers %d, want %d", what, n, e, wantE)
				}
			}
		}
	}
}

// act: an act that is to be done to a file system.
type act = func(fs *vfs.FS) api.Errno

// starts: the acts by which a journal is begun.
func starts(b []byte) []act {
	return []act{
		func(fs *vfs.FS) api.Errno { return fs.Append("new", b) },
		func(fs *vfs.FS) api.Errno { return fs.Sync("new") },
		func(fs *vfs.FS) api.Errno { return fs.Rename("new", "log") },
	}
}

// removesNew: the act by which what is aside goes.
func removesNew(fs *vfs.FS) api.Errno { return fs.Remove("new") }

// TestOpenActByAct: with and without a file log, whole or not, and a file new.
func TestOpenActByAct(t *testing.T) {
	for version := 1; version <= 3; version++ {
		old := fileOf(t, 4-version, traces(4-version))
		for i := range 12 {
			fs := files(t, map[string][]byte{"other": []byte("abc")})
			acts := []act{}
			if i%2 == 1 {
				put(t, fs, "new", []byte("left"), i%4 == 1)
				acts = append(acts, removesNew)
			}
			wantVersion, wantRecords := 4-version, traces(4-version)
			switch i / 4 {
			case 0:
				acts = append(acts, starts(fileOf(t, version, nil))...)
				wantVersion, wantRecords = version, nil
			case 1:
				put(t, fs, "log", old, true)
			case 2:
				put(t, fs, "log", old, true)
				put(t, fs, "log", []byte("behind"), false)
				acts = append(acts, func(fs *vfs.FS) api.Errno { return fs.Truncate("log", len(old)) })
			}
			wantActs(t, "Open", fs, func(fs *vfs.FS) api.Errno {
				s, e := store.Open(fs, version)
				if (e == api.OK) != (s != nil) {
					t.Fatalf("Open = %v %d", s, e)
				}
				if e == api.OK {
					wantStore(t, "Open", s, wantVersion, wantRecords, false)
				}
				return e
			}, acts...)
		}
	}
}

// TestOpenRefused: which error is told first, and that nothing is done.
func TestOpenRefused(t *testing.T) {
	up := files(t, map[string][]byte{"new": []byte("left"), "log": fileOf(t, 2, traces(2))})
	down := up.Copy()
	down.Fall(0)
	down.Remove("new")
	bare := vfs.New()
	bare.Fall(0)
	bare.Append("other", nil)
	whole := files(t, map[string][]byte{"log": fileOf(t, 2, nil)})
	whole.Fall(0)
	whole.Sync("log")
	refuses := func(fs *vfs.FS, version int, want api.Errno) {
		t.Helper()
		before := ""
		if fs != nil {
			before = told(fs)
		}
		if s, e := store.Open(fs, version); s != nil || e != want {
			t.Errorf("Open(%d) = %v %d, want %d", version, s, e, want)
		}
		if fs != nil && told(fs) != before {
			t.Errorf("Open(%d) changed it to %s", version, told(fs))
		}
	}
	for _, version := range append([]int{1, 2, 3}, noVersions...) {
		refuses(nil, version, api.ErrArg)
	}
	for _, version := range noVersions {
		refuses(up, version, api.ErrVersion)
		refuses(down, version, api.ErrVersion)
	}
	for version := 1; version <= 3; version++ {
		refuses(down, version, api.ErrDown)
		refuses(bare, version, api.ErrDown)
		refuses(whole, version, api.ErrDown)
	}
}

// TestOpenOfNoFile: what has no head is told by layer 10's error; what is aside is gone by then.
func TestOpenOfNoFile(t *testing.T) {
	head, _ := frame.Head(2)
	turned := slices.Clone(head)
	turned[5] ^= 1
	for _, x := range []struct {
		b    []byte
		want api.Errno
	}{{nil, api.ErrShort}, {head[:7], api.ErrShort}, {[]byte("tph\x01aaaa"), api.ErrForm}, {turned, api.ErrSum}} {
		fs := files(t, map[string][]byte{"log": x.b, "new": head})
		if s, e := store.Open(fs, 2); s != nil || e != x.want {
			t.Errorf("Open of %q = %v %d, want %d", x.b, s, e, x.want)
		}
		wantAlike(t, "Open", fs, files(t, map[string][]byte{"log": x.b}))
	}
}

// does: what is done to a store by a call, or by acts; and what it has then.
type does struct {
	what    string
	call    func(s *store.Store) api.Errno
	acts    []act
	version int
	records []api.Record
}

// todo: what may be done to a store with these records, all of which is done, if no act fails.
func todo(t *testing.T, version int, l []api.Record) []does {
	t.Helper()
	all := []does{{"Commit", (*store.Store).Commit, []act{func(fs *vfs.FS) api.Errno { return fs.Sync("log") }}, version, l}}
	grows := func(what string, r api.Record, call func(s *store.Store) api.Errno) {
		more := append(slices.Clone(l), r)
		frames := fileOf(t, version, more)[len(fileOf(t, version, l)):]
		all = append(all, does{what, call, []act{func(fs *vfs.FS) api.Errno { return fs.Append("log", frames) }}, version, more})
	}
	for _, r := range append(traces(version), trace("c", 5)) {
		grows("Put", r, func(s *store.Store) api.Errno { return s.Put(r) })
	}
	for _, r := range fold.Of(l) {
		grows("Delete", gone(r.Target), func(s *store.Store) api.Errno { return s.Delete(r.Target) })
	}
	for to := 1; to <= 3; to++ {
		for _, fresh := range [][]api.Record{nil, traces(to), append(traces(to), gone("b"), gone("nowhere"))} {
			all = append(all, does{"Rewrite", func(s *store.Store) api.Errno { return s.Rewrite(to, fresh) }, starts(fileOf(t, to, fresh)), to, fresh})
		}
	}
	return all
}

// wantDone does it, and holds what the store has then against what is wanted; and that nothing is done any more if it is over.
func wantDone(t *testing.T, s *store.Store, fs *vfs.FS, one does, version int, l []api.Record) api.Errno {
	t.Helper()
	e := one.call(s)
	if e == api.OK {
		version, l = one.version, one.records
	}
	wantStore(t, one.what, s, version, l, e == api.ErrDown)
	if e != api.ErrDown {
		return e
	}
	before := told(fs)
	wantOver(t, s)
	if told(fs) != before {
		t.Fatalf("behind %s it is over, and yet acts", one.what)
	}
	wantStore(t, one.what, s, version, l, true)
	return e
}

// wantOver holds all calls that would act against ErrDown, whatever is handed in.
func wantOver(t *testing.T, s *store.Store) {
	t.Helper()
	for _, r := range append(never(1), trace("a", 1), gone("a"), api.Record{}) {
		wantE(t, "Put when it is over", s.Put(r), api.ErrDown)
		wantE(t, "Delete when it is over", s.Delete(r.Target), api.ErrDown)
		for _, version := range []int{-1, 0, 1, 2, 3, 4} {
			wantE(t, "Rewrite when it is over", s.Rewrite(version, []api.Record{r}), api.ErrDown)
			wantE(t, "Rewrite when it is over", s.Rewrite(version, nil), api.ErrDown)
		}
	}
	wantE(t, "Commit when it is over", s.Commit(), api.ErrDown)
}

// TestActByAct: each call on stores of all versions, with each act failing, and fallen at: what is done, what is answered, and what the store has then.
func TestActByAct(t *testing.T) {
	for version := 1; version <= 3; version++ {
		for size := range 5 {
			l := traces(version)[:size]
			for _, one := range todo(t, version, l) {
				wantActs(t, one.what, unsafe(t, version, l), func(fs *vfs.FS) api.Errno {
					return wantDone(t, opened(t, fs, 1), fs, one, version, l)
				}, one.acts...)
			}
		}
	}
}

// TestRewriteWithAFileAside: what another one left there is taken away ahead of all else; by all other calls it stays.
func TestRewriteWithAFileAside(t *testing.T) {
	leaves := func(fs *vfs.FS) api.Errno { return fs.Append("new", []byte("left")) }
	for version := 1; version <= 3; version++ {
		for _, one := range todo(t, version, traces(version)) {
			acts := []act{leaves}
			if one.what == "Rewrite" {
				acts = append(acts, removesNew)
			}
			wantActs(t, one.what, unsafe(t, version, traces(version)), func(fs *vfs.FS) api.Errno {
				s := opened(t, fs, 1)
				if e := leaves(fs); e != api.OK {
					return e
				}
				return wantDone(t, s, fs, one, version, traces(version))
			}, append(acts, one.acts...)...)
		}
	}
}

// TestRefused: which error is told first, and that nothing is done.
func TestRefused(t *testing.T) {
	for version := 1; version <= 3; version++ {
		fs := vfs.New()
		s := opened(t, fs, version)
		l := []api.Record{trace("a", 1), trace("b", 2), gone("b")}
		wantE(t, "Rewrite", s.Rewrite(version, l), api.OK)
		before := told(fs)
		refuses := func(what string, e, want api.Errno) {
			t.Helper()
			wantE(t, what, e, want)
			if now := told(fs); now != before {
				t.Fatalf("%s changed it from\n%s to\n%s", what, before, now)
			}
			wantStore(t, what, s, version, l, false)
		}
		fs.Fail(0)
		for _, r := range append(never(version), gone("a"), gone("c"), gone(""), api.Record{}, api.Record{Kind: 3, Target: "a"}, api.Record{Kind: -1, Target: "a"}) {
			refuses("Put", s.Put(r), api.ErrArg)
		}
		for _, target := range []string{"", strings.Repeat("a", 65), strings.Repeat("a", 1000)} {
			refuses("Delete of no name", s.Delete(target), api.ErrArg)
		}
		for _, target := range []string{"b", "c", "dep", "z", "A", "a\x00", strings.Repeat("a", 64), "\xff"} {
			refuses("Delete of none", s.Delete(target), api.ErrNone)
		}
		for _, to := range noVersions {
			refuses("Rewrite", s.Rewrite(to, nil), api.ErrVersion)
			refuses("Rewrite", s.Rewrite(to, never(1)), api.ErrVersion)
		}
		for to := 1; to <= 3; to++ {
			for _, r := range append(never(to), gone(""), api.Record{}, api.Record{Kind: api.Gone, Target: "a", Out: 1}) {
				refuses("Rewrite", s.Rewrite(to, []api.Record{trace("a", 1), r}), api.ErrArg)
				refuses("Rewrite", s.Rewrite(to, []api.Record{r, trace("a", 1)}), api.ErrArg)
			}
		}
		// None of them was an act.
		refuses("Commit", s.Commit(), api.ErrIO)
		wantE(t, "Commit", s.Commit(), api.OK)
	}
}

// TestStaysOver: it is over behind a crash, too; one that is opened then isn't.
func TestStaysOver(t *testing.T) {
	for version := 1; version <= 3; version++ {
		for _, one := range todo(t, version, traces(version)) {
			fs := vfs.New()
			s := opened(t, fs, version)
			wantE(t, "Rewrite", s.Rewrite(version, traces(version)), api.OK)
			fs.Fall(0)
			wantE(t, one.what, one.call(s), api.ErrDown)
			fs.Crash()
			wantOver(t, s)
			wantStore(t, "behind the crash", s, version, traces(version), true)
			wantStore(t, "opened again", opened(t, fs, 1), version, traces(version), false)
		}
	}
}

// TestOverByItsOwnActs: that the file system is down is known by an act.
func TestOverByItsOwnActs(t *testing.T) {
	fs := vfs.New()
	s := opened(t, fs, 2)
	fs.Fall(0)
	fs.Append("other", nil)
	wantStore(t, "ahead of its acts", s, 2, nil, false)
	wantE(t, "Put", s.Put(api.Record{}), api.ErrArg)
	wantE(t, "Delete", s.Delete("a"), api.ErrNone)
	wantE(t, "Rewrite", s.Rewrite(4, nil), api.ErrVersion)
	wantStore(t, "ahead of its acts", s, 2, nil, false)
	wantE(t, "Put", s.Put(trace("a", 1)), api.ErrDown)
	wantStore(t, "behind an act", s, 2, nil, true)
}

// TestLongNames: at the limits all is as elsewhere.
func TestLongNames(t *testing.T) {
	fs := vfs.New()
	s := opened(t, fs, 3)
	long := strings.Repeat("\xff", 63)
	r := api.Record{Kind: api.Trace, Target: long + "t", Tag: long + "g", Rule: math.MaxUint64, Out: math.MaxUint64, When: math.MaxUint64}
	for i := range 16 {
		r.Deps = append(r.Deps, api.Dep{Name: long + strconv.Itoa(i % 10)[:1], Hash: math.MaxUint64, Order: i%2 == 0})
		if i >= 10 {
			r.Deps[i].Name = "n" + strconv.Itoa(i)
		}
	}
	wantE(t, "Put", s.Put(r), api.OK)
	wantStore(t, "Put", opened(t, fs, 1), 3, []api.Record{r}, false)
	wantE(t, "Delete", s.Delete(r.Target), api.OK)
	wantStore(t, "Delete", opened(t, fs, 1), 3, []api.Record{r, gone(r.Target)}, false)
}

// TestNothingIsShared: what is handed in isn't changed, and isn't kept; what is answered is new memory.
func TestNothingIsShared(t *testing.T) {
	fs := vfs.New()
	s := opened(t, fs, 3)
	spoil := func(l []api.Record) {
		for _, r := range l {
			clear(r.Deps)
			_ = append(r.Deps, api.Dep{Name: "behind"})
		}
		clear(l)
		_ = append(l, gone("behind"))
	}
	l := traces(3)
	wantE(t, "Rewrite", s.Rewrite(3, l), api.OK)
	r := trace("c", 1)
	wantE(t, "Put", s.Put(r), api.OK)
	if !slices.EqualFunc(l, traces(3), record.Same) || !record.Same(r, trace("c", 1)) {
		t.Fatalf("what was handed in is changed: %v %v", l, r)
	}
	spoil(l)
	spoil([]api.Record{r})
	want := append(traces(3), trace("c", 1))
	for range 2 {
		wantStore(t, "what was handed in is spoilt", s, 3, want, false)
		spoil(s.Records())
		spoil(s.All())
		found, _ := s.Find("c")
		spoil([]api.Record{found})
	}
	wantE(t, "Put", s.Put(trace("d", 1)), api.OK)
	wantE(t, "Delete", s.Delete("d"), api.OK)
	want = append(want, trace("d", 1), gone("d"))
	wantStore(t, "what was answered is spoilt", s, 3, want, false)
	if b, _ := fs.Read("log"); !bytes.Equal(b, fileOf(t, 3, want)) {
		t.Fatalf("log is %q", b)
	}
}

// TestTwoStores: each has what is its own, and goes on by itself.
func TestTwoStores(t *testing.T) {
	one, other := opened(t, vfs.New(), 1), opened(t, vfs.New(), 3)
	wantE(t, "Put", one.Put(trace("a", 1)), api.OK)
	wantE(t, "Put", other.Put(trace("b", 1)), api.OK)
	wantStore(t, "one", one, 1, []api.Record{trace("a", 1)}, false)
	wantStore(t, "the other one", other, 3, []api.Record{trace("b", 1)}, false)
}
