package journal_test

import (
	"slices"
	"testing"

	"tephra/api"
	"tephra/codec"
	"tephra/journal"
	"tephra/record"
	"tephra/vfs"
)

// crashes: what comes of a file system by a call of which an act fails, or falls, and by a crash behind it, whatever is kept.
func crashes(fs *vfs.FS, acts int, call func(fs *vfs.FS) api.Errno) []*vfs.FS {
	all := []*vfs.FS{}
	for n := range acts + 1 {
		for _, ask := range []func(*vfs.FS, int){(*vfs.FS).Fail, (*vfs.FS).Fall} {
			other := fs.Copy()
			ask(other, n)
			if call(other) == api.ErrIO {
				all = append(all, other.Copy())
			}
			all = append(all, crashed(other)...)
		}
	}
	return all
}

// crashed: what comes of a file system by a crash, whatever is kept of up to two files.
func crashed(fs *vfs.FS) []*vfs.FS {
	all := []*vfs.FS{}
	unsafe := []int{0, 0}
	at := 0
	for _, name := range fs.Names() {
		if b, _ := fs.Read(name); fs.Safe(name) < len(b) {
			unsafe[at] = len(b) - fs.Safe(name)
			at++
		}
	}
	for first := range unsafe[0] + 1 {
		for second := range unsafe[1] + 1 {
			other := fs.Copy()
			other.Crash(first, second)
			all = append(all, other)
		}
	}
	return all
}

// opened: the records of a journal, and whether Open changes its file.
func opened(t *testing.T, fs *vfs.FS) (l []api.Record, whole bool) {
	t.Helper()
	before := fs.Copy()
	f, e := journal.Open(fs, "log")
	if e != api.OK {
		t.Fatalf("Open = %d of %s", e, told(fs))
	}
	return f.Records, alike(fs, before)
}

// TestEitherBehindStart: there is the file that was there, or the new one, whole.
func TestEitherBehindStart(t *testing.T) {
	for _, aside := range []bool{false, true} {
		for version := 1; version <= 3; version++ {
			old, fresh := records(version)[:3], records(version)[2:]
			fs := vfs.New()
			put(t, fs, "log", fileOf(t, version, old), true)
			if aside {
				put(t, fs, "new", []byte("abc"), true)
			}
			counts := [2]int{}
			for _, one := range crashes(fs, 5, func(fs *vfs.FS) api.Errno { return journal.Start(fs, "log", "new", version, fresh) }) {
				l, whole := opened(t, one)
				isOld, isFresh := slices.EqualFunc(l, old, record.Same), slices.EqualFunc(l, fresh, record.Same)
				if !isOld && !isFresh || !whole {
					t.Fatalf("behind Start there are %v, whole %v", l, whole)
				}
				if isOld {
					counts[0]++
				} else {
					counts[1]++
				}
				// And it can be begun anew.
				if e := journal.Start(one, "log", "new", version, fresh); e != api.OK {
					t.Fatalf("Start again = %d", e)
				}
				wantRecords(t, one, "log", version, fresh)
			}
			if counts[0] == 0 || counts[1] == 0 {
				t.Fatalf("of both there were %v", counts)
			}
		}
	}
}

// TestNothingOrAllBehindTheFirstStart: where no file was, there is none, or the new one.
func TestNothingOrAllBehindTheFirstStart(t *testing.T) {
	for _, one := range crashes(vfs.New(), 4, func(fs *vfs.FS) api.Errno { return journal.Start(fs, "log", "new", 2, records(2)) }) {
		if !slices.Contains(one.Names(), "log") {
			continue
		}
		if l, whole := opened(t, one); !whole || !slices.EqualFunc(l, records(2), record.Same) {
			t.Fatalf("behind Start there are %v, whole %v", l, whole)
		}
	}
}

// TestEitherBehindAppend: the records that were there, and the new one, or not.
func TestEitherBehindAppend(t *testing.T) {
	for version := 1; version <= 3; version++ {
		all := append(records(version), gone("fresh"))
		for i, r := range all {
			fs := vfs.New()
			put(t, fs, "log", fileOf(t, version, all[:i]), true)
			f, e := journal.Open(fs, "log")
			if e != api.OK {
				t.Fatal(e)
			}
			with := 0
			for _, one := range crashes(fs, 1, func(fs *vfs.FS) api.Errno {
				_, e := journal.Append(fs, "log", f, r)
				return e
			}) {
				l, _ := opened(t, one)
				if len(l) != i && len(l) != i+1 || !slices.EqualFunc(l, all[:len(l)], record.Same) {
					t.Fatalf("behind Append of %v there are %v", r, l)
				}
				with += len(l) - i
				wantGoesOn(t, one, version, l)
			}
			if with == 0 {
				t.Fatalf("%v never was there", r)
			}
		}
	}
}

// wantGoesOn puts a record behind those of a journal that was opened, and holds it against all of them.
func wantGoesOn(t *testing.T, fs *vfs.FS, version int, l []api.Record) {
	t.Helper()
	f, e := journal.Open(fs, "log")
	if e != api.OK {
		t.Fatal(e)
	}
	want, _ := codec.Get(fileOf(t, version, append(slices.Clone(l), gone("more"))))
	g, e := journal.Append(fs, "log", f, gone("more"))
	wantFile(t, "Append", g, e, want, api.OK)
	wantRecords(t, fs, "log", version, want.Records)
}

// TestEitherBehindOpen: of a journal that isn't whole all records are there, whatever comes of the act.
func TestEitherBehindOpen(t *testing.T) {
	for version := 1; version <= 3; version++ {
		for _, behind := range behinds(t, version) {
			fs := vfs.New()
			put(t, fs, "log", fileOf(t, version, records(version)), true)
			put(t, fs, "log", behind, false)
			for _, one := range crashes(fs, 1, func(fs *vfs.FS) api.Errno {
				_, e := journal.Open(fs, "log")
				return e
			}) {
				wantRecords(t, one, "log", version, records(version))
				if _, whole := opened(t, one); !whole {
					t.Fatal("it was opened, and isn't whole")
				}
				wantGoesOn(t, one, version, records(version))
			}
		}
	}
}

// TestCutOffAnywhere: of a journal that lost its last bytes just those records are there that are whole.
func TestCutOffAnywhere(t *testing.T) {
	for version := 1; version <= 3; version++ {
		b := fileOf(t, version, records(version))
		whole, _ := codec.Get(b)
		for size := 8; size <= len(b); size++ {
			fs := vfs.New()
			put(t, fs, "log", b[:size], true)
			left := 0
			for left < len(whole.Ends) && whole.Ends[left] <= size {
				left++
			}
			f := wantRecords(t, fs, "log", version, records(version)[:left])
			if now, _ := fs.Read("log"); len(now) != f.Good || fs.Safe("log") != f.Good {
				t.Fatalf("of %d bytes %d are left, want %d", size, len(now), f.Good)
			}
			wantGoesOn(t, fs, version, records(version)[:left])
		}
	}
}
