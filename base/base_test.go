package base_test

import (
	"math"
	"slices"
	"strconv"
	"testing"

	"tephra/api"
	"tephra/base"
	"tephra/codec"
	"tephra/compact"
	"tephra/crew"
	"tephra/dump"
	"tephra/fold"
	"tephra/load"
	"tephra/record"
	"tephra/store"
	"tephra/upgrade"
	"tephra/vfs"
)

// gone: the record that a target is.
func gone(target string) api.Record {
	return api.Record{Kind: api.Gone, Target: target}
}

// records: some that may be at a version, of which some can be done without.
func records(version int) []api.Record {
	l := []api.Record{
		{Kind: api.Trace, Target: "b", Rule: 300, Deps: []api.Dep{{Name: "a", Hash: 5}, {Name: "c", Hash: 1 << 63}}, Out: 7},
		{Kind: api.Trace, Target: "a", Out: 1},
		gone("a"),
		{Kind: api.Trace, Target: "c", Rule: 1, Deps: []api.Dep{{Name: "b"}}, Out: math.MaxUint64},
		{Kind: api.Trace, Target: "\x00 -", Deps: []api.Dep{{Name: "-", Hash: 3}}},
		{Kind: api.Trace, Target: "c"},
	}
	if version >= 2 {
		l[0].When, l[4].When = 77, math.MaxUint64
	}
	if version >= 3 {
		l[0].Tag, l[3].Tag = "b", "t"
		l[0].Deps[1].Order = true
	}
	return l
}

// imageOf: the image of records of a version, in the words of the chapter.
func imageOf(version int, l []api.Record) []api.Record {
	var image []api.Record
	for _, r := range fold.Of(l) {
		if version < 2 {
			r.When = 1
		}
		if version < 3 {
			r.Tag = "old"
		}
		image = append(image, r)
	}
	return image
}

// wantE holds what a call answers against an error.
func wantE(t *testing.T, what string, e, want api.Errno) {
	t.Helper()
	if e != want {
		t.Fatalf("%s = %d, want %d", what, e, want)
	}
}

// files: a file system with a journal of records, all of it safe.
func files(t *testing.T, version int, l []api.Record) *vfs.FS {
	t.Helper()
	b, e := codec.Put(version, l)
	wantE(t, "codec.Put", e, api.OK)
	fs := vfs.New()
	fs.Append("log", b)
	fs.Sync("log")
	return fs
}

// told: all that a file system tells.
func told(fs *vfs.FS) string {
	s := "down " + strconv.FormatBool(fs.Down())
	for _, name := range fs.Names() {
		b, _ := fs.Read(name)
		s += "; " + strconv.Quote(name) + " " + strconv.Quote(string(b)) + " safe " + strconv.Itoa(fs.Safe(name))
	}
	return s
}

// opened: the base on a file system.
func opened(t *testing.T, fs *vfs.FS, version int) *base.Base {
	t.Helper()
	b, e := base.Open(fs, version)
	if e != api.OK || b == nil || b.Store() == nil {
		t.Fatalf("Open = %v %d", b, e)
	}
	return b
}

// having: a base of a version that has these records, all of them committed.
func having(t *testing.T, version int, l []api.Record) *base.Base {
	t.Helper()
	return opened(t, files(t, version, l), version)
}

// wantBase holds all that a base tells against what is wanted: its version, and its records.
func wantBase(t *testing.T, what string, b *base.Base, version int, l []api.Record) {
	t.Helper()
	s := b.Store()
	if s.Version() != version || !slices.EqualFunc(s.Records(), l, record.Same) {
		t.Fatalf("%s: the base has %d %v, want %d %v", what, s.Version(), s.Records(), version, l)
	}
	image := imageOf(version, l)
	if !fold.Same(b.Image(), image) {
		t.Fatalf("%s: Image = %v, want %v", what, b.Image(), image)
	}
	want, e := dump.Text(image)
	wantE(t, "dump.Text", e, api.OK)
	if text, e := b.Dump(); e != api.OK || text != want {
		t.Fatalf("%s: Dump = %q %d, want %q", what, text, e, want)
	}
}

func TestOfTheChapter(t *testing.T) {
	b, c := opened(t, vfs.New(), 1), opened(t, vfs.New(), 2)
	wantE(t, "Put", b.Store().Put(api.Record{Kind: api.Trace, Target: "a", Rule: 1}), api.OK)
	if b.Same(c) || c.Same(b) {
		t.Fatal("Same ahead of Load")
	}
	text, e := b.Dump()
	wantE(t, "Dump", e, api.OK)
	wantE(t, "Load", c.Load(text), api.OK)
	if !b.Same(c) || !c.Same(b) {
		t.Errorf("%v, and %v", b.Image(), c.Image())
	}
}

// TestOpen: just as the store is opened, with its errors.
func TestOpen(t *testing.T) {
	for version := 1; version <= 3; version++ {
		fs := vfs.New()
		wantBase(t, "a new one", opened(t, fs, version), version, nil)
		wantBase(t, "again", opened(t, fs, 4-version), version, nil)
		fs = files(t, version, records(version))
		fs.Append("new", []byte("left"))
		fs.Append("log", []byte("behind"))
		wantBase(t, "with a journal", opened(t, fs, 4-version), version, records(version))
		if told(fs) != told(files(t, version, records(version))) {
			t.Fatalf("it left %s", told(fs))
		}
	}
	down := vfs.New()
	down.Fall(0)
	down.Append("x", nil)
	wrong := vfs.New()
	wrong.Append("log", []byte("no journal"))
	failing := vfs.New()
	failing.Fail(1)
	for i, x := range []struct {
		fs      *vfs.FS
		version int
		want    api.Errno
	}{{nil, 1, api.ErrArg}, {nil, 0, api.ErrArg}, {vfs.New(), 0, api.ErrVersion}, {vfs.New(), 4, api.ErrVersion}, {vfs.New(), math.MinInt, api.ErrVersion}, {vfs.New(), math.MaxInt, api.ErrVersion}, {down, 0, api.ErrVersion}, {down, 1, api.ErrDown}, {wrong, 1, api.ErrForm}, {failing, 1, api.ErrIO}} {
		if b, e := base.Open(x.fs, x.version); e != x.want || b != nil {
			t.Errorf("%d: Open = %v %d, want %d", i, b, e, x.want)
		}
	}
}

// TestStore: a base tells what its store has, and what is done to its store is done to it.
func TestStore(t *testing.T) {
	for version := 1; version <= 3; version++ {
		b := having(t, version, records(version))
		s := b.Store()
		wantBase(t, "opened", b, version, records(version))
		wantE(t, "Delete", s.Delete("b"), api.OK)
		more := append(records(version), gone("b"))
		wantBase(t, "behind Delete", b, version, more)
		wantE(t, "Put", b.Store().Put(records(version)[0]), api.OK)
		more = append(more, records(version)[0])
		wantBase(t, "behind Put", b, version, more)
		if b.Store() != s {
			t.Error("it has another store")
		}
		for i, r := range b.Image() {
			r.Target = "x"
			clear(r.Deps)
			b.Image()[i] = r
		}
		wantBase(t, "written into", b, version, more)
	}
}

// TestSame: of all pairs just those are the same whose images are.
func TestSame(t *testing.T) {
	a := api.Record{Kind: api.Trace, Target: "a", Rule: 1}
	timed, old, tagged := a, a, a
	timed.When = 1
	old.When, old.Tag = 1, "old"
	tagged.Tag = "old"
	for i, x := range []likeness{
		{having(t, 1, nil), 0}, {having(t, 3, nil), 0}, {having(t, 2, []api.Record{a, gone("a")}), 0},
		{having(t, 1, []api.Record{a}), 1}, {having(t, 2, []api.Record{timed}), 1}, {having(t, 3, []api.Record{old}), 1}, {having(t, 1, []api.Record{a, gone("a"), a}), 1},
		{having(t, 2, []api.Record{a}), 2}, {having(t, 3, []api.Record{tagged}), 2}, {having(t, 3, []api.Record{old, tagged}), 2},
		{having(t, 3, []api.Record{a}), 3},
		{having(t, 3, []api.Record{timed}), 4},
	} {
		if x.b.Same(nil) {
			t.Errorf("%d is the same as none", i)
		}
		for j, y := range sames(t) {
			if got := x.b.Same(y.b); got != (x.like == y.like) || got != y.b.Same(x.b) {
				t.Errorf("%d and %d: Same = %v", i, j, got)
			}
			one, _ := x.b.Dump()
			other, _ := y.b.Dump()
			if (one == other) != (x.like == y.like) {
				t.Errorf("%d and %d: the dumps are %q, %q", i, j, one, other)
			}
		}
	}
}

// likeness: a base, and the number that all bases have that are the same.
type likeness struct {
	b    *base.Base
	like int
}

// sames: bases of which one trace, or none, comes in all ways.
func sames(t *testing.T) []likeness {
	a := api.Record{Kind: api.Trace, Target: "a", Rule: 1}
	b := api.Record{Kind: api.Trace, Target: "b", Rule: 1}
	with := func(when uint64, tag string) api.Record {
		r := a
		r.When, r.Tag = when, tag
		return r
	}
	return []likeness{
		{having(t, 2, nil), 0}, {having(t, 1, []api.Record{gone("a")}), 0},
		{having(t, 1, []api.Record{b, a, a, gone("b")}), 1}, {having(t, 3, []api.Record{with(7, "x"), with(1, "old")}), 1},
		{having(t, 2, []api.Record{with(0, "")}), 2}, {having(t, 3, []api.Record{with(0, "old")}), 2},
		{having(t, 3, []api.Record{with(0, "")}), 3},
		{having(t, 3, []api.Record{with(1, "")}), 4},
		{having(t, 2, []api.Record{with(2, "")}), 5}, {having(t, 1, []api.Record{b}), 6}, {having(t, 1, []api.Record{a, b}), 7},
	}
}

// twin: a base, and a store to which the same is done by the layers below.
type twin struct {
	fs, other *vfs.FS
	b         *base.Base
	s         *store.Store
}

// opens both.
func (w *twin) open(t *testing.T, version int) {
	t.Helper()
	b, e := base.Open(w.fs, version)
	s, wantE := store.Open(w.other, version)
	if e != wantE || (b == nil) != (s == nil) {
		t.Fatalf("Open = %v %d, want %v %d", b, e, s, wantE)
	}
	if b != nil {
		w.b, w.s = b, s
	}
}

// acts does the same to both, and tells what both answered.
func (w *twin) acts(t *testing.T, pick func(int) int) (got, want string) {
	t.Helper()
	n := pick(4) - 1
	switch pick(11) {
	case 0:
		l, given, workers := right(pick), some(pick), pick(18)
		steps, e := w.b.Build(l, given, 5, workers)
		wantSteps, wantE := crew.Run(w.s, l, given, 5, workers)
		return toldSteps(steps, e), toldSteps(wantSteps, wantE)
	case 1:
		text, e := w.b.Dump()
		want, _ := dump.Text(imageOf(w.s.Version(), w.s.Records()))
		return text + strconv.Itoa(int(e)), want + "0"
	case 2:
		text, _ := dump.Text(fold.Of(records(3)[pick(6):]))
		text = []string{text, text, text[1:], text[:len(text)-1]}[pick(4)]
		return strconv.Itoa(int(w.b.Load(text))), strconv.Itoa(int(load.Into(w.s, text)))
	case 3, 4:
		ok, e := w.b.Tidy(n)
		due, wantE := compact.Due(w.s, n), api.OK
		if due {
			wantE = compact.Do(w.s)
		}
		return toldDone(ok, e), toldDone(due && wantE == api.OK, wantE)
	case 5:
		version := pick(5)
		return strconv.Itoa(int(w.b.Upgrade(version))), strconv.Itoa(int(upgrade.Do(w.s, version)))
	case 6:
		r := records(1 + pick(3))[pick(6)]
		return strconv.Itoa(int(w.b.Store().Put(r))), strconv.Itoa(int(w.s.Put(r)))
	case 7:
		return strconv.Itoa(int(w.b.Store().Delete("c"))), strconv.Itoa(int(w.s.Delete("c")))
	case 8:
		return strconv.Itoa(int(w.b.Store().Commit())), strconv.Itoa(int(w.s.Commit()))
	case 9:
		w.fs.Fail(n)
		w.other.Fail(n)
	case 10:
		w.fs.Fall(n)
		w.other.Fall(n)
	}
	return "", ""
}

// toldSteps: steps and an error as text.
func toldSteps(steps []api.Step, e api.Errno) string {
	s := strconv.Itoa(int(e))
	for _, step := range steps {
		s += " " + step.Name + " " + strconv.FormatBool(step.Ran) + " " + strconv.FormatUint(step.Contents, 10)
	}
	return s
}

// toldDone: whether it is done, and an error, as text.
func toldDone(done bool, e api.Errno) string {
	return strconv.FormatBool(done) + " " + strconv.Itoa(int(e))
}

// TestCalls: in every order of calls a base does and answers just what the layers below do and answer.
func TestCalls(t *testing.T) {
	pick := chance(1)
	answers := map[string]int{}
	for i := range 400 {
		w := &twin{fs: vfs.New(), other: vfs.New()}
		w.open(t, 1+i%3)
		for range 30 {
			got, want := w.acts(t, pick)
			if got != want {
				t.Fatalf("it answers %s, want %s", got, want)
			}
			answers[got]++
			if told(w.fs) != told(w.other) || w.b.Store().Over() != w.s.Over() {
				t.Fatalf("over %v:\n%s, want %v\n%s", w.b.Store().Over(), told(w.fs), w.s.Over(), told(w.other))
			}
			wantBase(t, "behind it", w.b, w.s.Version(), w.s.Records())
			if w.fs.Down() || pick(30) == 0 {
				keep := pick(100)
				w.fs.Crash(keep)
				w.other.Crash(keep)
				w.open(t, pick(4))
			}
		}
	}
	for _, want := range []string{"true 0", "false 0", "false 8", "false 7", "0", "1", "3", "4", "6", "7", "8", "11"} {
		if answers[want] == 0 {
			t.Errorf("%q was never answered", want)
		}
	}
}

// TestTidy: due above so many, and then done or its error.
func TestTidy(t *testing.T) {
	for version := 1; version <= 3; version++ {
		for most, due := range map[int]bool{math.MinInt: true, -1: true, 0: true, 1: true, 2: true, 3: false, 4: false, math.MaxInt: false} {
			fs := files(t, version, records(version))
			b := opened(t, fs, version)
			done, e := b.Tidy(most)
			if done != due || e != api.OK {
				t.Fatalf("Tidy(%d) = %v %d", most, done, e)
			}
			want := records(version)
			if due {
				want = fold.Of(want)
			}
			wantBase(t, "behind Tidy", b, version, want)
			if told(fs) != told(files(t, version, want)) {
				t.Fatalf("Tidy(%d) left %s", most, told(fs))
			}
			fs.Fall(0)
			wantE(t, "Commit", b.Store().Commit(), api.ErrDown)
			// What isn't due isn't done, even if it is over.
			if done, e := b.Tidy(0); done || (e == api.OK) != due || !due && e != api.ErrDown {
				t.Fatalf("Tidy of one that is over = %v %d", done, e)
			}
		}
	}
}

// TestRefused: what the layers below refuse.
func TestRefused(t *testing.T) {
	b := having(t, 2, records(2))
	fs := files(t, 2, records(2))
	over := opened(t, fs, 2)
	fs.Fall(0)
	wantE(t, "Commit", over.Store().Commit(), api.ErrDown)
	good, _ := b.Dump()
	for i, x := range []struct {
		e, want api.Errno
	}{
		{b.Upgrade(1), api.ErrVersion}, {b.Upgrade(4), api.ErrVersion}, {over.Upgrade(4), api.ErrDown}, {over.Upgrade(3), api.ErrDown},
		{b.Load(""), api.ErrForm}, {b.Load(good[1:]), api.ErrSum}, {over.Load("x"), api.ErrForm}, {over.Load(good), api.ErrDown},
		{b.Load(dump.Sealed("tephra 1\n")), api.ErrForm},
		{buildError(b, 0), api.ErrArg}, {buildError(b, 17), api.ErrArg}, {buildError(over, 0), api.ErrArg}, {buildError(over, 1), api.ErrDown}, {buildError(b, 1), api.ErrNone},
	} {
		if x.e != x.want {
			t.Errorf("%d: %d, want %d", i, x.e, x.want)
		}
	}
	wantBase(t, "behind all", b, 2, records(2))
	wantBase(t, "the one that is over", over, 2, records(2))
}

// buildError: what a base answers to a graph that may not be.
func buildError(b *base.Base, workers int) api.Errno {
	steps, e := b.Build([]api.Node{{Name: "a", Deps: []string{"b"}}}, nil, 1, workers)
	if len(steps) > 0 {
		return api.OK
	}
	return e
}
