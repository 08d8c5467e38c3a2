package journal_test

import (
	"bytes"
	"math"
	"slices"
	"strconv"
	"strings"
	"testing"

	"tephra/api"
	"tephra/codec"
	"tephra/frame"
	"tephra/journal"
	"tephra/record"
	"tephra/vfs"
)

// gone: the record that a target is.
func gone(target string) api.Record {
	return api.Record{Kind: api.Gone, Target: target}
}

// records: some that may be at a version, which share texts; one stands twice.
func records(version int) []api.Record {
	l := []api.Record{
		{Kind: api.Trace, Target: "a", Rule: 300, Deps: []api.Dep{{Name: "b", Hash: 5}, {Name: "c", Hash: 1 << 63}}, Out: 7},
		gone("b"),
		{Kind: api.Trace, Target: "b", Rule: 1, Deps: []api.Dep{{Name: "c"}}, Out: math.MaxUint64},
		gone("b"),
		gone("\x00\xff"),
	}
	if version >= 2 {
		l[2].When = 77
	}
	if version >= 3 {
		l[0].Tag, l[2].Tag = "b", "t"
		l[0].Deps[1].Order = true
	}
	return l
}

// never: records that may not be at a version.
func never(version int) []api.Record {
	long := strings.Repeat("x", 65)
	plain := api.Record{Kind: api.Trace, Target: "a"}
	l := []api.Record{{}, gone(""), gone(long), {Kind: 3, Target: "a"}, {Kind: api.Gone, Target: "a", Out: 1}, plain, plain, plain}
	l[5].Tag = long
	l[6].Deps = []api.Dep{{Name: "a"}}
	l[7].Deps = []api.Dep{{Name: "b"}, {Name: "b"}}
	if version < 3 {
		l = append(l, api.Record{Kind: api.Trace, Target: "a", Tag: "t"}, api.Record{Kind: api.Trace, Target: "a", Deps: []api.Dep{{Name: "b", Order: true}}})
	}
	if version < 2 {
		l = append(l, api.Record{Kind: api.Trace, Target: "a", When: 1})
	}
	return l
}

// noVersions: numbers that no version has.
var noVersions = []int{math.MinInt, -1, 0, 4, 257, math.MaxInt}

// fileOf: the file of records.
func fileOf(t *testing.T, version int, l []api.Record) []byte {
	t.Helper()
	b, e := codec.Put(version, l)
	if e != api.OK {
		t.Fatalf("codec.Put(%d) = %d", version, e)
	}
	return b
}

// framesOf: the frames of a record behind others: what the file of all has more than that of the others.
func framesOf(t *testing.T, version int, ahead []api.Record, r api.Record) []byte {
	t.Helper()
	return fileOf(t, version, append(slices.Clone(ahead), r))[len(fileOf(t, version, ahead)):]
}

// put lays a file, all of it safe or nothing.
func put(t *testing.T, fs *vfs.FS, name string, b []byte, safe bool) {
	t.Helper()
	if e := fs.Append(name, b); e != api.OK {
		t.Fatal(e)
	}
	if safe {
		fs.Sync(name)
	}
}

// alike holds two file systems against each other, in all that is told of their files.
func alike(a, b *vfs.FS) bool {
	if !slices.Equal(a.Names(), b.Names()) || a.Down() != b.Down() {
		return false
	}
	for _, name := range a.Names() {
		one, _ := a.Read(name)
		other, _ := b.Read(name)
		if !bytes.Equal(one, other) || a.Safe(name) != b.Safe(name) {
			return false
		}
	}
	return true
}

// told: what a file system has, to be told where it isn't as wanted.
func told(fs *vfs.FS) string {
	s := "down " + strconv.FormatBool(fs.Down())
	for _, name := range fs.Names() {
		b, _ := fs.Read(name)
		s += "; " + strconv.Quote(name) + " " + strconv.Quote(string(b)) + " safe " + strconv.Itoa(fs.Safe(name))
	}
	return s
}

// wantAlike holds a file system against another one.
func wantAlike(t *testing.T, what string, got, want *vfs.FS) {
	t.Helper()
	if !alike(got, want) {
		t.Fatalf("%s:\n%s, want\n%s", what, told(got), told(want))
	}
}

// sameFile holds two files that were read against each other.
func sameFile(a, b codec.File) bool {
	return a.Version == b.Version && a.Good == b.Good && slices.Equal(a.Ends, b.Ends) && slices.EqualFunc(a.Records, b.Records, record.Same)
}

// wantFile holds what a call answers against a file and an error.
func wantFile(t *testing.T, what string, f codec.File, e api.Errno, want codec.File, wantE api.Errno) {
	t.Helper()
	if e != wantE || !sameFile(f, want) {
		t.Fatalf("%s = %v %d, want %v %d", what, f, e, want, wantE)
	}
}

// wantRecords opens a journal, and holds its records against those that are wanted.
func wantRecords(t *testing.T, fs *vfs.FS, name string, version int, want []api.Record) codec.File {
	t.Helper()
	f, e := journal.Open(fs, name)
	if e != api.OK || f.Version != version || !slices.EqualFunc(f.Records, want, record.Same) {
		t.Fatalf("Open(%q) = %v %d, want %d %v", name, f, e, version, want)
	}
	return f
}

// wantActs does the same by a call and by acts, one behind the other up to the first error, with each act failing, and fallen at, and each that was asked for not there; and holds both against each other.
func wantActs(t *testing.T, what string, fs *vfs.FS, call func(fs *vfs.FS) api.Errno, acts ...func(fs *vfs.FS) api.Errno) {
	t.Helper()
	for n := -1; n <= len(acts); n++ {
		for _, ask := range []func(fs *vfs.FS){func(fs *vfs.FS) { fs.Fail(n) }, func(fs *vfs.FS) { fs.Fall(n) }, func(fs *vfs.FS) { fs.Fail(n); fs.Fall(n + 1) }, func(fs *vfs.FS) { fs.Fall(0); fs.Append("away", nil); fs.Fail(n) }} {
			got, want := fs.Copy(), fs.Copy()
			ask(got)
			ask(want)
			wantE := api.OK
			for _, act := range acts {
				if wantE = act(want); wantE != api.OK {
					break
				}
			}
			if e := call(got); e != wantE {
				t.Fatalf("%s, act %d = %d, want %d", what, n, e, wantE)
			}
			wantAlike(t, what, got, want)
			// What is asked of later acts is asked of the same ones.
			for range len(acts) + 2 {
				if e, wantE := got.Append("more", []byte("b")), want.Append("more", []byte("b")); e != wantE {
					t.Fatalf("%s, act %d: an act behind it answers %d, want %d", what, n, e, wantE)
				}
			}
		}
	}
}

func TestStartAndOpen(t *testing.T) {
	for version := 1; version <= 3; version++ {
		for _, l := range [][]api.Record{nil, {}, records(version)[:1], records(version)} {
			fs := vfs.New()
			if e := journal.Start(fs, "log", "new", version, l); e != api.OK {
				t.Fatalf("Start = %d", e)
			}
			b := fileOf(t, version, l)
			want := vfs.New()
			put(t, want, "log", b, true)
			wantAlike(t, "behind Start", fs, want)
			f, e := journal.Open(fs, "log")
			wantOf, _ := codec.Get(b)
			wantFile(t, "Open", f, e, wantOf, api.OK)
			wantRecords(t, fs, "log", version, l)
			wantAlike(t, "behind Open", fs, want)
		}
	}
}

// starts: file systems with a file of the name, one aside, both, others.
func starts(t *testing.T) []*vfs.FS {
	all := []*vfs.FS{}
	for i := range 8 {
		fs := vfs.New()
		if i&1 > 0 {
			put(t, fs, "log", fileOf(t, 2, records(2)), true)
			put(t, fs, "log", []byte("behind"), false)
		}
		if i&2 > 0 {
			put(t, fs, "new", []byte("of old"), true)
			put(t, fs, "new", []byte("!"), false)
		}
		if i&4 > 0 {
			put(t, fs, "other", []byte("abc"), false)
		}
		all = append(all, fs)
	}
	return all
}

func TestStartActByAct(t *testing.T) {
	for i, fs := range starts(t) {
		for version := 1; version <= 3; version++ {
			l := records(version)[:i%4]
			b := fileOf(t, version, l)
			acts := []func(fs *vfs.FS) api.Errno{
				func(fs *vfs.FS) api.Errno { return fs.Append("new", b) },
				func(fs *vfs.FS) api.Errno { return fs.Sync("new") },
				func(fs *vfs.FS) api.Errno { return fs.Rename("new", "log") },
			}
			if i&2 > 0 {
				acts = slices.Insert(acts, 0, func(fs *vfs.FS) api.Errno { return fs.Remove("new") })
			}
			wantActs(t, "Start", fs, func(fs *vfs.FS) api.Errno { return journal.Start(fs, "log", "new", version, l) }, acts...)
		}
	}
}

// TestStartRefused: which error is told first, and that nothing is done.
func TestStartRefused(t *testing.T) {
	for _, fs := range starts(t) {
		before := fs.Copy()
		wantE := func(what string, e, want api.Errno) {
			t.Helper()
			if e != want {
				t.Fatalf("%s = %d, want %d", what, e, want)
			}
			wantAlike(t, what, fs, before)
		}
		for _, version := range noVersions {
			wantE("Start of no version", journal.Start(fs, "log", "log", version, never(1)), api.ErrVersion)
			wantE("Start of no version", journal.Start(fs, "log", "new", version, nil), api.ErrVersion)
			wantE("Start on nothing", journal.Start(nil, "log", "new", version, nil), api.ErrArg)
		}
		for version := 1; version <= 3; version++ {
			for _, r := range never(version) {
				for _, l := range [][]api.Record{{r}, {gone("a"), r}, {r, gone("a")}} {
					wantE("Start of "+strconv.Quote(r.Target), journal.Start(fs, "log", "new", version, l), api.ErrArg)
				}
			}
			for _, name := range []string{"", "log", "new", "nowhere"} {
				wantE("Start with one name", journal.Start(fs, name, name, version, records(version)), api.ErrArg)
			}
			wantE("Start on nothing", journal.Start(nil, "log", "new", version, records(version)), api.ErrArg)
		}
	}
}

// TestAnyNames: names are any texts, the empty one too.
func TestAnyNames(t *testing.T) {
	names := []string{"", "\x00", "\xff\xfe", "log", strings.Repeat("n", 300)}
	for _, name := range names {
		for _, aside := range names {
			if name == aside {
				continue
			}
			fs := vfs.New()
			put(t, fs, aside, []byte("old"), true)
			if e := journal.Start(fs, name, aside, 3, records(3)); e != api.OK || !slices.Equal(fs.Names(), []string{name}) {
				t.Fatalf("Start(%q, %q) = %d; files %q", name, aside, e, fs.Names())
			}
			f := wantRecords(t, fs, name, 3, records(3))
			if _, e := journal.Append(fs, name, f, gone("x")); e != api.OK {
				t.Fatalf("Append to %q = %d", name, e)
			}
			wantRecords(t, fs, name, 3, append(records(3), gone("x")))
		}
	}
}

func TestOpenRefused(t *testing.T) {
	head, _ := frame.Head(2)
	turned := slices.Clone(head)
	turned[5] ^= 1
	fs := vfs.New()
	for name, b := range map[string][]byte{"empty": nil, "short": head[:7], "form": []byte("tph\x01aaaa"), "sum": turned, "version": []byte("TPH\x04aaaa")} {
		put(t, fs, name, b, false)
	}
	before := fs.Copy()
	for name, want := range map[string]api.Errno{"nowhere": api.ErrNone, "": api.ErrNone, "empty": api.ErrShort, "short": api.ErrShort, "form": api.ErrForm, "sum": api.ErrSum, "version": api.ErrSum} {
		f, e := journal.Open(fs, name)
		wantFile(t, "Open of "+name, f, e, codec.File{}, want)
		f, e = journal.Open(nil, name)
		wantFile(t, "Open of nothing", f, e, codec.File{}, api.ErrArg)
		wantAlike(t, "Open of "+name, fs, before)
	}
}

// behinds: what may stand behind the records of a file, and is none.
func behinds(t *testing.T, version int) [][]byte {
	whole := framesOf(t, version, records(version), gone("fresh"))
	text, _ := frame.Put(nil, []byte("\x00text"))
	odd, _ := frame.Put(nil, []byte("\x07"))
	turned := slices.Clone(whole)
	turned[len(turned)-1] ^= 1
	return [][]byte{{0}, []byte("behind"), whole[:1], whole[:len(whole)-1], text, odd, turned, bytes.Repeat([]byte{255}, 99)}
}

func TestOpenActByAct(t *testing.T) {
	for version := 1; version <= 3; version++ {
		b := fileOf(t, version, records(version))
		want, _ := codec.Get(b)
		for i, behind := range behinds(t, version) {
			for _, safe := range []bool{false, true} {
				fs := vfs.New()
				put(t, fs, "log", b, true)
				put(t, fs, "log", behind, safe)
				put(t, fs, "new", behind, safe)
				wantActs(t, "Open", fs, func(fs *vfs.FS) api.Errno {
					f, e := journal.Open(fs, "log")
					if e != api.OK && !sameFile(f, codec.File{}) || e == api.OK && !sameFile(f, want) {
						t.Fatalf("%d: Open = %v %d", i, f, e)
					}
					return e
				}, func(fs *vfs.FS) api.Errno { return fs.Truncate("log", len(b)) })
			}
		}
	}
}

// TestOpenOfAWholeOneIsNoAct: it is answered even if it is down.
func TestOpenOfAWholeOneIsNoAct(t *testing.T) {
	for version := 1; version <= 3; version++ {
		for size := range len(records(version)) + 1 {
			l := records(version)[:size]
			fs := vfs.New()
			put(t, fs, "log", fileOf(t, version, l), false)
			wantActs(t, "Open", fs, func(fs *vfs.FS) api.Errno {
				wantRecords(t, fs, "log", version, l)
				return api.OK
			})
		}
	}
}

func TestAppendActByAct(t *testing.T) {
	for version := 1; version <= 3; version++ {
		all := append(records(version), gone("fresh"), records(version)[0])
		for i, r := range all {
			fs := vfs.New()
			put(t, fs, "log", fileOf(t, version, all[:i]), i%2 == 0)
			f, e := journal.Open(fs, "log")
			if e != api.OK {
				t.Fatal(e)
			}
			want, _ := codec.Get(fileOf(t, version, all[:i+1]))
			frames := framesOf(t, version, all[:i], r)
			wantActs(t, "Append", fs, func(fs *vfs.FS) api.Errno {
				g, e := journal.Append(fs, "log", f, r)
				if e != api.OK && !sameFile(g, codec.File{}) || e == api.OK && !sameFile(g, want) {
					t.Fatalf("Append = %v %d, want %v", g, e, want)
				}
				return e
			}, func(fs *vfs.FS) api.Errno { return fs.Append("log", frames) })
		}
	}
}

// TestAppendOneBehindTheOther: the file is the one that codec would have made of all records at once.
func TestAppendOneBehindTheOther(t *testing.T) {
	for version := 1; version <= 3; version++ {
		fs := vfs.New()
		if e := journal.Start(fs, "log", "new", version, records(version)[:2]); e != api.OK {
			t.Fatal(e)
		}
		f, _ := journal.Open(fs, "log")
		l := records(version)[:2]
		for i := range 40 {
			r := records(version)[i%5]
			r.Target += strconv.Itoa(i / 10)
			l = append(l, r)
			var e api.Errno
			f, e = journal.Append(fs, "log", f, r)
			want, _ := codec.Get(fileOf(t, version, l))
			wantFile(t, "Append", f, e, want, api.OK)
		}
		if b, _ := fs.Read("log"); !bytes.Equal(b, fileOf(t, version, l)) {
			t.Fatalf("%d: the file isn't that of all records", version)
		}
	}
}

// TestAppendTakesTheFileAsItIsHanded: what stands in the file system isn't read; a file that isn't there comes in.
func TestAppendTakesTheFileAsItIsHanded(t *testing.T) {
	for _, good := range []int{0, 8, -3, 1000, math.MinInt} {
		fs := vfs.New()
		f := codec.File{Version: 2, Records: []api.Record{gone("a")}, Ends: []int{5, 4}, Good: good}
		g, e := journal.Append(fs, "log", f, gone("a"))
		wantFile(t, "Append", g, e, codec.File{Version: 2, Records: []api.Record{gone("a"), gone("a")}, Ends: []int{5, 4, good + 7}, Good: good + 7}, api.OK)
		want := vfs.New()
		put(t, want, "log", framesOf(t, 2, []api.Record{gone("a")}, gone("a")), false)
		wantAlike(t, "Append", fs, want)
	}
}

func TestAppendRefused(t *testing.T) {
	fs := vfs.New()
	put(t, fs, "log", fileOf(t, 1, nil), true)
	before := fs.Copy()
	wantE := func(what string, fs *vfs.FS, f codec.File, r api.Record, want api.Errno) {
		t.Helper()
		g, e := journal.Append(fs, "log", f, r)
		wantFile(t, what, g, e, codec.File{}, want)
	}
	for _, version := range noVersions {
		wantE("Append of no version", fs, codec.File{Version: version, Good: 8}, gone("a"), api.ErrVersion)
		wantE("Append of no version", fs, codec.File{Version: version, Records: never(1)}, gone(""), api.ErrVersion)
		wantE("Append to nothing", nil, codec.File{Version: version}, gone("a"), api.ErrArg)
	}
	for version := 1; version <= 3; version++ {
		wantE("Append to nothing", nil, codec.File{Version: version, Good: 8}, gone("a"), api.ErrArg)
		for _, r := range never(version) {
			good := codec.File{Version: version, Records: records(version), Good: 8}
			bad := codec.File{Version: version, Records: []api.Record{gone("a"), r, gone("b")}, Good: 8}
			wantE("Append of "+strconv.Quote(r.Target), fs, good, r, api.ErrArg)
			wantE("Append behind "+strconv.Quote(r.Target), fs, bad, gone("a"), api.ErrArg)
			wantE("Append of both", fs, bad, r, api.ErrArg)
		}
	}
	wantAlike(t, "what was refused", fs, before)
	// Errors of what is handed in are told ahead of what the file system answers.
	fs.Fall(0)
	fs.Remove("log")
	wantE("Append when it is down", fs, codec.File{}, gone("a"), api.ErrVersion)
	wantE("Append when it is down", fs, codec.File{Version: 1}, gone(""), api.ErrArg)
	wantE("Append when it is down", fs, codec.File{Version: 1}, gone("a"), api.ErrDown)
}

// TestNothingIsShared: what is handed in isn't changed, and isn't kept; what is answered is new memory, each list of it.
func TestNothingIsShared(t *testing.T) {
	fs := vfs.New()
	l := records(3)
	if e := journal.Start(fs, "log", "new", 3, l); e != api.OK || !slices.EqualFunc(l, records(3), record.Same) {
		t.Fatalf("Start = %d, and changed %v", e, l)
	}
	f := wantRecords(t, fs, "log", 3, records(3))
	room := codec.File{Version: 3, Records: append(make([]api.Record, 0, 20), f.Records...), Ends: append(make([]int, 0, 20), f.Ends...), Good: f.Good}
	r := records(3)[0]
	g, e := journal.Append(fs, "log", room, r)
	if e != api.OK || !sameFile(room, f) || room.Ends[:20][len(f.Ends)] != 0 || room.Records[:20][len(f.Records)].Kind != 0 || !record.Same(r, records(3)[0]) {
		t.Fatalf("Append = %d, and changed %v", e, room)
	}
	want := wantRecords(t, fs, "log", 3, append(records(3), records(3)[0]))
	clear(r.Deps)
	clear(l[0].Deps)
	clear(room.Records[0].Deps)
	clear(room.Records)
	clear(room.Ends)
	wantFile(t, "Append", g, e, want, api.OK)
	clear(g.Records[0].Deps)
	if last := len(g.Records) - 1; !record.Same(g.Records[last], records(3)[0]) {
		t.Fatalf("two records of an answer share memory: %v", g.Records[last])
	}
	clear(g.Records)
	wantRecords(t, fs, "log", 3, append(records(3), records(3)[0]))
}
