package load_test

import (
	"slices"
	"strconv"
	"testing"

	"tephra/api"
	"tephra/codec"
	"tephra/fold"
	"tephra/load"
	"tephra/record"
	"tephra/store"
	"tephra/vfs"
)

// wantE holds what a call answers against an error.
func wantE(t *testing.T, what string, e, want api.Errno) {
	t.Helper()
	if e != want {
		t.Fatalf("%s = %d, want %d", what, e, want)
	}
}

// old: records that may be at all versions.
func old() []api.Record {
	return []api.Record{{Kind: api.Trace, Target: "z", Out: 1}, {Kind: api.Trace, Target: "z"}, {Kind: api.Gone, Target: "y"}}
}

// files: a file system with a journal of records, all of it safe.
func files(t *testing.T, version int, l []api.Record) *vfs.FS {
	t.Helper()
	b, e := codec.Put(version, l)
	wantE(t, "codec.Put", e, api.OK)
	fs := vfs.New()
	fs.Append("log", b)
	fs.Sync("log")
	return fs
}

// told: all that a file system tells.
func told(fs *vfs.FS) string {
	s := "down " + strconv.FormatBool(fs.Down())
	for _, name := range fs.Names() {
		b, _ := fs.Read(name)
		s += "; " + strconv.Quote(name) + " " + strconv.Quote(string(b)) + " safe " + strconv.Itoa(fs.Safe(name))
	}
	return s
}

// opened: the store on a file system.
func opened(t *testing.T, fs *vfs.FS) *store.Store {
	t.Helper()
	s, e := store.Open(fs, 1)
	wantE(t, "Open", e, api.OK)
	return s
}

// wantStore holds a store against a version and records.
func wantStore(t *testing.T, s *store.Store, version int, l []api.Record) {
	t.Helper()
	if s.Version() != version || !slices.EqualFunc(s.Records(), l, record.Same) {
		t.Fatalf("the store has %d %v, want %d %v", s.Version(), s.Records(), version, l)
	}
}

// TestInto: a store of any version has the version 3 then, and that state, safe.
func TestInto(t *testing.T) {
	for version := 1; version <= 3; version++ {
		for _, state := range states() {
			fs := files(t, version, old())
			s := opened(t, fs)
			wantE(t, "Into", load.Into(s, textOf(t, state)), api.OK)
			wantStore(t, s, 3, state)
			if want := told(files(t, 3, state)); told(fs) != want {
				t.Fatalf("Into: %s, want %s", told(fs), want)
			}
			fs.Crash()
			again := opened(t, fs)
			wantStore(t, again, 3, state)
			if !fold.Same(again.All(), state) || textOf(t, again.All()) != textOf(t, state) {
				t.Fatalf("its text is another one: %q", textOf(t, again.All()))
			}
		}
	}
}

// TestIntoActByAct: with each act failing, and fallen at, it does and answers just what Rewrite does.
func TestIntoActByAct(t *testing.T) {
	state := states()[5]
	text := textOf(t, state)
	for version := 1; version <= 3; version++ {
		for n := -1; n < 6; n++ {
			for _, ask := range []func(*vfs.FS, int){(*vfs.FS).Fail, (*vfs.FS).Fall} {
				for _, left := range []bool{false, true} {
					fs, other := files(t, version, old()), files(t, version, old())
					s, o := opened(t, fs), opened(t, other)
					if left {
						fs.Append("new", []byte("left"))
						other.Append("new", []byte("left"))
					}
					ask(fs, n)
					ask(other, n)
					wantE(t, "Into", load.Into(s, text), o.Rewrite(3, state))
					wantStore(t, s, o.Version(), o.Records())
					if told(fs) != told(other) || s.Over() != o.Over() {
						t.Fatalf("Into, act %d:\n%s, over %v, want\n%s, %v", n, told(fs), s.Over(), told(other), o.Over())
					}
				}
			}
		}
	}
}

// TestIntoRefused: which error is told first, and that nothing is done.
func TestIntoRefused(t *testing.T) {
	good := textOf(t, states()[5])
	texts := map[string]api.Errno{"": api.ErrForm, good[1:]: api.ErrSum, good + "\n": api.ErrForm, sealedOf("tephra 1\n"): api.ErrForm, good[:len(good)-1]: api.ErrForm}
	wantE(t, "Into of none", load.Into(nil, good), api.ErrArg)
	for version := 1; version <= 3; version++ {
		fs := files(t, version, old())
		s := opened(t, fs)
		before := told(fs)
		refuses := func(text string, want api.Errno) {
			t.Helper()
			wantE(t, "Into", load.Into(s, text), want)
			wantStore(t, s, version, old())
			if told(fs) != before {
				t.Fatalf("Into changed it to %s", told(fs))
			}
		}
		for text, want := range texts {
			wantE(t, "Into of none", load.Into(nil, text), api.ErrArg)
			refuses(text, want)
		}
		fs.Fall(0)
		wantE(t, "Commit", s.Commit(), api.ErrDown)
		fs.Crash()
		for text, want := range texts {
			refuses(text, want)
		}
		refuses(good, api.ErrDown)
	}
}
