package store_test

import (
	"slices"
	"testing"

	"tephra/api"
	"tephra/codec"
	"tephra/fold"
	"tephra/record"
	"tephra/store"
	"tephra/vfs"
)

// model: a store in the words of the chapter, which does the acts by itself.
type model struct {
	fs      *vfs.FS
	version int
	records []api.Record
	over    bool
}

// does acts one behind the other, up to the first that answers an error.
func (m *model) does(acts ...act) api.Errno {
	for _, one := range acts {
		if e := one(m.fs); e != api.OK {
			m.over = m.over || e == api.ErrDown
			return e
		}
	}
	return api.OK
}

// reopen: what Open does, and answers; if it is refused there is the one that there was.
func (m *model) reopen(version int) api.Errno {
	was := *m
	e := m.open(version)
	if e != api.OK {
		*m = was
	}
	return e
}

// begins: what layer 14's Start does.
func (m *model) begins(b []byte) api.Errno {
	acts := starts(b)
	if slices.Contains(m.fs.Names(), "new") {
		acts = slices.Insert(acts, 0, removesNew)
	}
	return m.does(acts...)
}

// open: what Open does, and answers.
func (m *model) open(version int) api.Errno {
	if m.fs.Down() {
		return api.ErrDown
	}
	if slices.Contains(m.fs.Names(), "new") {
		if e := m.does(removesNew); e != api.OK {
			return e
		}
	}
	if !slices.Contains(m.fs.Names(), "log") {
		b, _ := codec.Put(version, nil)
		if e := m.begins(b); e != api.OK {
			return e
		}
	}
	b, _ := m.fs.Read("log")
	f, e := codec.Get(b)
	if e == api.OK && f.Good < len(b) {
		e = m.does(func(fs *vfs.FS) api.Errno { return fs.Truncate("log", f.Good) })
	}
	if e != api.OK {
		return e
	}
	m.version, m.records, m.over = f.Version, f.Records, false
	return api.OK
}

// adds: what an Append of layer 14 does.
func (m *model) adds(r api.Record) api.Errno {
	more := append(slices.Clone(m.records), r)
	ahead, _ := codec.Put(m.version, m.records)
	b, _ := codec.Put(m.version, more)
	e := m.does(func(fs *vfs.FS) api.Errno { return fs.Append("log", b[len(ahead):]) })
	if e == api.OK {
		m.records = more
	}
	return e
}

// put: what Put does, and answers.
func (m *model) put(r api.Record) api.Errno {
	if m.over {
		return api.ErrDown
	}
	if r.Kind != 1 || !record.May(m.version, r) {
		return api.ErrArg
	}
	return m.adds(r)
}

// delete: what Delete does, and answers.
func (m *model) delete(target string) api.Errno {
	if m.over {
		return api.ErrDown
	}
	if target == "" || len(target) > 64 {
		return api.ErrArg
	}
	if !slices.ContainsFunc(fold.Of(m.records), func(r api.Record) bool { return r.Target == target }) {
		return api.ErrNone
	}
	return m.adds(gone(target))
}

// rewrite: what Rewrite does, and answers.
func (m *model) rewrite(version int, l []api.Record) api.Errno {
	if m.over {
		return api.ErrDown
	}
	b, e := codec.Put(version, l)
	if e == api.OK {
		e = m.begins(b)
	}
	if e == api.OK {
		m.version, m.records = version, l
	}
	return e
}

// commit: what Commit does, and answers.
func (m *model) commit() api.Errno {
	if m.over {
		return api.ErrDown
	}
	return m.does(func(fs *vfs.FS) api.Errno { return fs.Sync("log") })
}

// chance: numbers that look like chance.
func chance(seed uint64) func(n int) int {
	x := seed
	return func(n int) int {
		x = x*6364136223846793005 + 1442695040888963407
		return int(x >> 33 % uint64(n))
	}
}

// both: a store on a file system, and its model on another one.
type both struct {
	fs *vfs.FS
	s  *store.Store
	m  *model
}

// newBoth: both, opened.
func newBoth(t *testing.T, version int) *both {
	t.Helper()
	fs := vfs.New()
	m := &model{fs: vfs.New()}
	wantE(t, "Open of the model", m.open(version), api.OK)
	return &both{fs, opened(t, fs, version), m}
}

// fresh: a record that looks like chance; a few may not be at the version.
func (o *both) fresh(pick func(int) int) api.Record {
	version := o.m.version
	if pick(8) == 0 {
		l := append(never(version), gone("a"), api.Record{})
		return l[pick(len(l))]
	}
	return append(traces(version), trace("c", 5), trace("dog", 6))[pick(6)]
}

// step: a call of both, the same one; what it answers is held against the model's.
func (o *both) step(t *testing.T, pick func(int) int) {
	t.Helper()
	switch pick(15) {
	case 0, 1, 2, 3, 4:
		r := o.fresh(pick)
		wantE(t, "Put", o.s.Put(r), o.m.put(r))
	case 5, 6:
		target := []string{"a", "b", "c", "dog", "\x00\xff", "", "dep"}[pick(7)]
		wantE(t, "Delete", o.s.Delete(target), o.m.delete(target))
	case 7, 8:
		wantE(t, "Commit", o.s.Commit(), o.m.commit())
	case 9:
		version, l := pick(5), []api.Record{}
		for range pick(4) {
			l = append(l, o.fresh(pick))
		}
		wantE(t, "Rewrite", o.s.Rewrite(version, l), o.m.rewrite(version, l))
	case 10:
		n := pick(5) - 1
		o.fs.Fail(n)
		o.m.fs.Fail(n)
	case 11:
		n := pick(6) - 1
		o.fs.Fall(n)
		o.m.fs.Fall(n)
	case 12:
		if pick(3) == 0 || o.fs.Down() {
			keep := []int{pick(90), pick(90)}
			o.fs.Crash(keep...)
			o.m.fs.Crash(keep...)
		}
	case 13:
		o.reopen(t, 1+pick(3))
	}
}

// reopen opens both anew; if that is refused there are the ones that there were.
func (o *both) reopen(t *testing.T, version int) {
	t.Helper()
	s, e := store.Open(o.fs, version)
	wantE(t, "Open", e, o.m.reopen(version))
	if (s != nil) != (e == api.OK) {
		t.Fatalf("Open = %v %d", s, e)
	}
	if s != nil {
		o.s = s
	}
}

// TestEveryOrderOfCalls: stores, told and asked in orders that look like chance, held act by act against the model.
func TestEveryOrderOfCalls(t *testing.T) {
	for round := range 400 {
		pick := chance(uint64(round))
		o := newBoth(t, 1+round%3)
		for range 80 {
			o.step(t, pick)
			wantAlike(t, "behind a call", o.fs, o.m.fs)
			wantStore(t, "behind a call", o.s, o.m.version, o.m.records, o.m.over)
		}
	}
}
