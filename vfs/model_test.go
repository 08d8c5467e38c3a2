package vfs_test

import (
	"slices"
	"strings"
	"testing"

	"tephra/api"
	"tephra/vfs"
)

// model: a file system in the words of the chapter, as a list that is gone through.
type model struct {
	files []one
	down  bool
	// Of what is asked: behind how many acts, below 0 if of none, and how many have come since.
	failBehind, failSince int
	fallBehind, fallSince int
}

func newModel() *model {
	return &model{failBehind: -1, fallBehind: -1}
}

// find: a file's place, or -1.
func (m *model) find(name string) int {
	return slices.IndexFunc(m.files, func(f one) bool { return f.name == name })
}

// comes: an act that isn't refused; whether it is to be done, and what it answers.
func (m *model) comes(isAppend bool) (bool, api.Errno) {
	fails, falls := m.failBehind == m.failSince, m.fallBehind == m.fallSince
	m.failSince++
	m.fallSince++
	if falls {
		m.down = true
		return isAppend, api.ErrDown
	}
	if fails {
		return false, api.ErrIO
	}
	return true, api.OK
}

// act: what an act answers, done if it is to be; at is the file's place.
func (m *model) act(what, name, other string, size int) api.Errno {
	at := m.find(name)
	if m.down {
		return api.ErrDown
	}
	if at < 0 && what != "append" {
		return api.ErrNone
	}
	if what == "truncate" && (size < 0 || size > len(m.files[at].bytes)) {
		return api.ErrArg
	}
	done, e := m.comes(what == "append")
	if !done {
		return e
	}
	switch what {
	case "append":
		if at < 0 {
			m.files = append(m.files, one{name: name})
			at = len(m.files) - 1
		}
		m.files[at].bytes += other
	case "truncate":
		m.files[at].bytes = m.files[at].bytes[:size]
		m.files[at].safe = min(m.files[at].safe, size)
	case "sync":
		m.files[at].safe = len(m.files[at].bytes)
	case "remove":
		m.files = slices.Delete(m.files, at, at+1)
	case "rename":
		moved := m.files[at]
		moved.name = other
		m.files = slices.DeleteFunc(m.files, func(f one) bool { return f.name == name || f.name == other })
		m.files = append(m.files, moved)
	}
	slices.SortFunc(m.files, func(a, b one) int { return strings.Compare(a.name, b.name) })
	return e
}

// crash: a crash that keeps so much.
func (m *model) crash(keep []int) {
	for i := range m.files {
		f := &m.files[i]
		if f.safe == len(f.bytes) {
			continue
		}
		kept := 0
		if len(keep) > 0 {
			kept = min(max(keep[0], 0), len(f.bytes)-f.safe)
			keep = keep[1:]
		}
		f.bytes = f.bytes[:f.safe+kept]
		f.safe = len(f.bytes)
	}
	m.down, m.failBehind, m.fallBehind = false, -1, -1
}

// told: a call, of the model and of the file system.
type told struct {
	m *model
	f *vfs.FS
}

// does one call of the file system, which is picked by numbers that look like chance, and of the model.
func (o told) does(t *testing.T, pick func(int) int) {
	t.Helper()
	names := []string{"", "x", "y", "xy", "\xff"}
	name, other := names[pick(len(names))], names[pick(len(names))]
	size := pick(12) - 1
	switch pick(16) {
	case 0, 1, 2, 3, 4:
		b := strings.Repeat(name+".", pick(3))
		wantE(t, "Append", o.f.Append(name, []byte(b)), o.m.act("append", name, b, 0))
	case 5, 6:
		wantE(t, "Sync", o.f.Sync(name), o.m.act("sync", name, "", 0))
	case 7, 8:
		wantE(t, "Truncate", o.f.Truncate(name, size), o.m.act("truncate", name, "", size))
	case 9, 10:
		wantE(t, "Rename", o.f.Rename(name, other), o.m.act("rename", name, other, 0))
	case 11:
		wantE(t, "Remove", o.f.Remove(name), o.m.act("remove", name, "", 0))
	case 12:
		o.f.Fail(size)
		o.m.failBehind, o.m.failSince = size, 0
	case 13:
		o.f.Fall(size)
		o.m.fallBehind, o.m.fallSince = size, 0
	default:
		if !o.m.down && pick(3) > 0 {
			return
		}
		keep := []int{}
		for range pick(6) {
			keep = append(keep, pick(14)-3)
		}
		before := slices.Clone(o.m.files)
		o.f.Crash(keep...)
		o.m.crash(keep)
		wantSafe(t, o.f, before)
	}
}

// wantSafe holds files behind a crash against those ahead of it: what was safe is there, and behind it a first part of what wasn't.
func wantSafe(t *testing.T, f *vfs.FS, before []one) {
	t.Helper()
	for _, w := range before {
		b, e := f.Read(w.name)
		if e != api.OK || len(b) < w.safe || !strings.HasPrefix(w.bytes, string(b)) || f.Safe(w.name) != len(b) {
			t.Fatalf("%q, %d of it safe, is %q %d behind a crash, %d of it safe", w.bytes, w.safe, b, e, f.Safe(w.name))
		}
	}
}

// TestEveryOrderOfCalls: file systems, and copies of them, told and asked in orders that look like chance.
func TestEveryOrderOfCalls(t *testing.T) {
	for round := range 400 {
		x := uint64(round)
		pick := func(n int) int {
			x = x*6364136223846793005 + 1442695040888963407
			return int(x >> 33 % uint64(n))
		}
		all := []told{{newModel(), vfs.New()}}
		for range 150 {
			o := all[pick(len(all))]
			if pick(20) == 0 {
				m := *o.m
				m.files = slices.Clone(m.files)
				all = append(all, told{&m, o.f.Copy()})
				all = all[max(len(all)-3, 0):]
			}
			o.does(t, pick)
			for _, o := range all {
				wantFiles(t, o.f, o.m.files...)
				if o.f.Down() != o.m.down {
					t.Fatalf("Down() = %v", o.f.Down())
				}
			}
		}
	}
}
