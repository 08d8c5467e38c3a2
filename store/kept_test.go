package store_test

import (
	"slices"
	"testing"

	"tephra/api"
	"tephra/codec"
	"tephra/record"
	"tephra/store"
	"tephra/vfs"
)

// crashed: what comes of a file system by a crash, whatever is kept of a file, and some of what is of a second one.
func crashed(fs *vfs.FS) []*vfs.FS {
	unsafe := []int{0, 0}
	at := 0
	for _, name := range fs.Names() {
		if b, _ := fs.Read(name); fs.Safe(name) < len(b) {
			unsafe[at] = len(b) - fs.Safe(name)
			at++
		}
	}
	all := []*vfs.FS{}
	for first := range unsafe[0] + 1 {
		for second := 0; second <= unsafe[1]; second += 1 + unsafe[1]/3 {
			other := fs.Copy()
			other.Crash(first, second)
			all = append(all, other)
		}
	}
	return all
}

// history: what a store had, as it went on.
type history struct {
	version int
	records []api.Record
	// How many of the first ones were there when a Commit, or a Rewrite, answered OK.
	safe int
	// The record whose act was fallen at: it isn't in the store, but may have come to the file.
	fallen []api.Record
}

// call: what is done to a store.
type call struct {
	what    string
	r       api.Record
	version int
	l       []api.Record
}

// does a call, and tells the history of it.
func (h *history) does(s *store.Store, c call) api.Errno {
	var e api.Errno
	switch c.what {
	case "put":
		e = s.Put(c.r)
	case "delete":
		e = s.Delete(c.r.Target)
	case "commit":
		e = s.Commit()
	case "rewrite":
		e = s.Rewrite(c.version, c.l)
	}
	switch {
	case e == api.ErrDown && c.r.Kind != 0:
		h.fallen = []api.Record{c.r}
	case e != api.OK:
	case c.what == "commit":
		h.safe = len(h.records)
	case c.what == "rewrite":
		h.version, h.records, h.safe = c.version, c.l, len(c.l)
	default:
		h.records = append(slices.Clone(h.records), c.r)
	}
	return e
}

// calls: some that are done one behind the other.
func calls(version int) []call {
	puts := []call{}
	for _, r := range traces(version) {
		puts = append(puts, call{what: "put", r: r})
	}
	commit := call{what: "commit"}
	return []call{puts[0], puts[1], commit, puts[2], {what: "delete", r: gone("a")}, {what: "rewrite", version: version, l: traces(version)[:2]}, puts[3], commit, {what: "delete", r: gone("b")}, puts[2], {what: "rewrite", version: 3, l: traces(3)}, {what: "put", r: trace("c", 1)}, {what: "delete", r: gone("c")}}
}

// wantKept opens the store of a file system behind a crash, and holds its records against a history.
func wantKept(t *testing.T, fs *vfs.FS, h history) {
	t.Helper()
	s := opened(t, fs, 2)
	all := slices.Concat(h.records, h.fallen)
	l := s.Records()
	if s.Version() != h.version || len(l) < h.safe || len(l) > len(all) || !slices.EqualFunc(l, all[:len(l)], record.Same) {
		t.Fatalf("behind a crash the store has %d %v, of\n%v, %d of them safe", s.Version(), l, h, h.safe)
	}
	wantStore(t, "behind a crash", s, h.version, l, false)
	// It goes on from there.
	wantE(t, "Put", s.Put(trace("more", 1)), api.OK)
	wantE(t, "Commit", s.Commit(), api.OK)
	fs.Crash()
	wantStore(t, "opened again", opened(t, fs, 2), h.version, append(l, trace("more", 1)), false)
}

// TestKeptBehindAnyCrash: behind each call of some, with any act failing, or fallen at, and whatever is kept.
func TestKeptBehindAnyCrash(t *testing.T) {
	for version := 1; version <= 3; version++ {
		for n := -1; n < 22; n++ {
			for _, ask := range []func(*vfs.FS, int){(*vfs.FS).Fail, (*vfs.FS).Fall} {
				fs := vfs.New()
				s := opened(t, fs, version)
				h := history{version: version}
				ask(fs, n)
				for _, c := range calls(version) {
					e := h.does(s, c)
					// Ahead of the act that is asked of, it is as if none were.
					if n >= 0 && e == api.OK {
						continue
					}
					for _, one := range crashed(fs) {
						wantKept(t, one, h)
					}
					if e == api.ErrDown {
						break
					}
				}
			}
		}
	}
}

// TestOpenedBehindAnyCrash: an Open in which an act fails, or is fallen at, loses nothing.
func TestOpenedBehindAnyCrash(t *testing.T) {
	for version := 1; version <= 3; version++ {
		for cut := range 30 {
			fs := vfs.New()
			s := opened(t, fs, version)
			h := history{version: version}
			for _, c := range calls(version)[:5] {
				h.does(s, c)
			}
			fs.Crash(cut)
			put(t, fs, "new", []byte("left"), cut%2 == 0)
			b, _ := fs.Read("log")
			f, _ := codec.Get(b)
			h.records, h.safe = f.Records, len(f.Records)
			for n := range 3 {
				for _, ask := range []func(*vfs.FS, int){(*vfs.FS).Fail, (*vfs.FS).Fall} {
					other := fs.Copy()
					ask(other, n)
					if _, e := store.Open(other, 1); e == api.ErrIO {
						wantKept(t, other.Copy(), h)
					}
					for _, one := range crashed(other) {
						wantKept(t, one, h)
					}
				}
			}
		}
	}
}

// TestBegunBehindAnyCrash: an Open that begins a journal, too, may be done anew, with any version.
func TestBegunBehindAnyCrash(t *testing.T) {
	for n := range 4 {
		for _, ask := range []func(*vfs.FS, int){(*vfs.FS).Fail, (*vfs.FS).Fall} {
			fs := vfs.New()
			ask(fs, n)
			_, e := store.Open(fs, 1)
			for _, one := range crashed(fs) {
				version := 2
				if e == api.OK {
					version = 1
				}
				wantKept(t, one, history{version: version})
			}
		}
	}
}

// TestFailingChangesNothing: behind what answers ErrIO both the store and what stands in log are as ahead of it, and the same call may be made again.
func TestFailingChangesNothing(t *testing.T) {
	for version := 1; version <= 3; version++ {
		for n := range 22 {
			fs := vfs.New()
			s := opened(t, fs, version)
			h := history{version: version}
			fs.Fail(n)
			failed := 0
			for _, c := range calls(version) {
				b, _ := fs.Read("log")
				safe := fs.Safe("log")
				if e := h.does(s, c); e == api.ErrIO {
					failed++
					now, _ := fs.Read("log")
					if !slices.Equal(b, now) || fs.Safe("log") != safe {
						t.Fatalf("%s failed, and log is %q, %d of it safe, was %q, %d", c.what, now, fs.Safe("log"), b, safe)
					}
					wantStore(t, c.what+" failed", s, h.version, h.records, false)
					wantE(t, c.what+" again", h.does(s, c), api.OK)
				} else if e != api.OK {
					t.Fatalf("%s = %d", c.what, e)
				}
				wantStore(t, c.what, s, h.version, h.records, false)
				wantAlikeLog(t, fs, h)
			}
			// There are 11 calls of one act, and two of three.
			if want := n < 17; (failed == 1) != want {
				t.Fatalf("act %d: %d failed", n, failed)
			}
		}
	}
}

// wantAlikeLog holds log against the file of all records.
func wantAlikeLog(t *testing.T, fs *vfs.FS, h history) {
	t.Helper()
	if b, _ := fs.Read("log"); !slices.Equal(b, fileOf(t, h.version, h.records)) {
		t.Fatalf("log is %q, want that of %v", b, h)
	}
}
