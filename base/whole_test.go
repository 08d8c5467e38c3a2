package base_test

import (
	"bytes"
	"slices"
	"strconv"
	"testing"

	"tephra/api"
	"tephra/base"
	"tephra/codec"
	"tephra/crew"
	"tephra/dirty"
	"tephra/dump"
	"tephra/fold"
	"tephra/record"
	"tephra/rule"
	"tephra/upgrade"
	"tephra/vfs"
)

// chance: numbers that look like chance.
func chance(seed uint64) func(n int) int {
	x := seed
	return func(n int) int {
		x = x*6364136223846793005 + 1442695040888963407
		return int(x >> 33 % uint64(n))
	}
}

// shuffled: the same in another order.
func shuffled[T any](pick func(int) int, l []T) []T {
	l = slices.Clone(l)
	for i := range l {
		j := i + pick(len(l)-i)
		l[i], l[j] = l[j], l[i]
	}
	return l
}

// right: some graph that may be, of few names, so that another one has some of them, too.
func right(pick func(int) int) []api.Node {
	l := []api.Node{}
	for i := range pick(9) {
		n := api.Node{Name: strconv.Itoa(i * 7 % 10), Source: pick(3) == 0}
		if !n.Source {
			n.Rule = uint64(pick(2))
			for _, below := range shuffled(pick, l)[:min(pick(4), len(l))] {
				n.Deps = append(n.Deps, below.Name)
			}
		}
		l = append(l, n)
	}
	return shuffled(pick, l)
}

// some: given contents, a few of them.
func some(pick func(int) int) []api.Step {
	given := []api.Step{}
	for range pick(8) {
		given = append(given, api.Step{Name: strconv.Itoa(pick(10)), Contents: uint64(pick(3))})
	}
	return given
}

// logOf: what stands in a file system's journal.
func logOf(t *testing.T, fs *vfs.FS) []byte {
	t.Helper()
	b, e := fs.Read("log")
	wantE(t, "Read", e, api.OK)
	return b
}

// on: a base on a file that has these bytes.
func on(t *testing.T, b []byte) *base.Base {
	t.Helper()
	fs := vfs.New()
	fs.Append("log", b)
	fs.Sync("log")
	return opened(t, fs, 1)
}

// TestThereAndBack: T1: a base's file is just that of its records; of whatever bytes, what is opened has just the bytes that are left of them.
func TestThereAndBack(t *testing.T) {
	pick := chance(2)
	for i := range 60 {
		version := 1 + i%3
		fs := vfs.New()
		b := opened(t, fs, version)
		for j := range 4 {
			_, e := b.Build(right(pick), some(pick), uint64(j), 1+pick(16))
			wantE(t, "Build", e, api.OK)
		}
		want, e := codec.Put(version, b.Store().Records())
		if got := logOf(t, fs); e != api.OK || !bytes.Equal(got, want) {
			t.Fatalf("the file is %q, want %q", got, want)
		}
		for range 20 {
			bent := slices.Clone(want)
			bent[8+pick(len(bent)-7)-1] ^= byte(1 + pick(255))
			other := vfs.New()
			other.Append("log", bent)
			c, e := base.Open(other, 1)
			if e != api.OK {
				continue
			}
			left := logOf(t, other)
			if again, _ := codec.Put(version, c.Store().Records()); !bytes.Equal(again, left) || !bytes.HasPrefix(bent, left) {
				t.Fatalf("%q is left of %q", left, bent)
			}
		}
	}
}

// TestCutOff: T2: of a file that is cut off just the records are there whose frames are whole; bits within 32 in a row of one frame, turned behind its length, end it.
func TestCutOff(t *testing.T) {
	pick := chance(3)
	for version := 1; version <= 3; version++ {
		l := records(version)
		b, e := codec.Put(version, l)
		wantE(t, "codec.Put", e, api.OK)
		f, _ := codec.Get(b)
		for cut := 8; cut <= len(b); cut++ {
			whole := 0
			for whole < len(l) && f.Ends[whole] <= cut {
				whole++
			}
			wantBase(t, "cut off", on(t, b[:cut]), version, l[:whole])
		}
		start := 8
		for i, end := range f.Ends {
			// At the version 1 each record is one frame, whose length has one byte.
			for range 200 {
				if version > 1 {
					break
				}
				bent := slices.Clone(b)
				first := 8*(start+1) + pick(8*(end-start-1))
				for bit := first; bit < min(first+32, 8*end); bit++ {
					if bit == first || pick(2) == 0 {
						bent[bit/8] ^= 1 << (bit % 8)
					}
				}
				wantBase(t, "turned", on(t, bent), version, l[:i])
			}
			start = end
		}
	}
}

// change: what is done to a base, and whether all that was there is safe if it answers OK, whether it is done at once by writing all anew.
type change struct {
	do          func(b *base.Base) api.Errno
	safe, whole bool
}

// changes: one of all kinds.
func changes(pick func(int) int) change {
	switch pick(7) {
	case 0:
		l, given := right(pick), some(pick)
		return change{do: func(b *base.Base) api.Errno {
			_, e := b.Build(l, given, 3, 4)
			return e
		}}
	case 1:
		return change{do: func(b *base.Base) api.Errno { return b.Store().Commit() }, safe: true}
	case 2:
		return change{do: func(b *base.Base) api.Errno {
			_, e := b.Tidy(0)
			return e
		}, whole: true}
	case 3:
		version := 1 + pick(3)
		return change{do: func(b *base.Base) api.Errno { return b.Upgrade(version) }, whole: true}
	case 4:
		text, _ := dump.Text(fold.Of(records(3)[pick(6):]))
		return change{do: func(b *base.Base) api.Errno { return b.Load(text) }, whole: true}
	case 5:
		return change{do: func(b *base.Base) api.Errno { return b.Store().Delete("c") }}
	}
	r := records(1)[pick(6)]
	return change{do: func(b *base.Base) api.Errno { return b.Store().Put(r) }}
}

// TestKept: T3: behind a crash a base has the fold of a first part of its records, with all that were committed; what is written anew is so wholly or not at all; what answers ErrIO, but for a build, has changed nothing.
func TestKept(t *testing.T) {
	pick := chance(4)
	crashes := 0
	for i := range 300 {
		fs := vfs.New()
		b := opened(t, fs, 1+i%3)
		safe := 0
		for range 25 {
			c := changes(pick)
			version, before := b.Store().Version(), b.Store().Records()
			other := fs.Copy()
			full := opened(t, other, 1)
			c.do(full)
			[]func(int){fs.Fail, fs.Fall, func(int) {}}[pick(3)](pick(9))
			e := c.do(b)
			after := b.Store().Records()
			if e == api.ErrIO && (c.whole || c.safe || len(after) == len(before)) {
				wantBase(t, "failed", b, version, before)
			}
			if e == api.OK {
				wantBase(t, "done", b, full.Store().Version(), full.Store().Records())
				if other.Safe("log") == len(logOf(t, other)) {
					safe = len(after)
				}
			}
			fs.Fail(-1)
			fs.Fall(-1)
			if !fs.Down() && pick(9) > 0 {
				continue
			}
			crashes++
			fs.Crash([]int{0, pick(60), 9999}[pick(3)])
			b = opened(t, fs, 1)
			l, want := b.Store().Records(), full.Store().Records()
			if c.whole && e != api.OK {
				want = before
			}
			if len(l) < safe || len(l) > len(want) || !slices.EqualFunc(l, want[:len(l)], record.Same) {
				t.Fatalf("behind a crash it has %v, of %v, of which %d were safe", l, want, safe)
			}
			wantBase(t, "behind a crash", b, b.Store().Version(), l)
			safe = len(l)
		}
	}
	if crashes < 1000 {
		t.Errorf("%d crashes", crashes)
	}
}

// TestNothingIsLost: whatever act of Tidy or Upgrade fails, or is fallen at, and whatever a crash keeps: the image of what was committed stays.
func TestNothingIsLost(t *testing.T) {
	for version := 1; version <= 3; version++ {
		calls := map[string]func(b *base.Base) api.Errno{"Tidy": func(b *base.Base) api.Errno {
			_, e := b.Tidy(0)
			return e
		}, "upgrade.Steps": func(b *base.Base) api.Errno { return upgrade.Steps(b.Store(), 3) }}
		for to := version; to <= 3; to++ {
			calls["Upgrade "+strconv.Itoa(to)] = func(b *base.Base) api.Errno { return b.Upgrade(to) }
		}
		want := imageOf(version, records(version))
		for name, call := range calls {
			for n := -1; n < 9; n++ {
				for _, ask := range []func(*vfs.FS, int){(*vfs.FS).Fail, (*vfs.FS).Fall} {
					fs := files(t, version, records(version))
					b := opened(t, fs, 1)
					ask(fs, n)
					e := call(b)
					if !fold.Same(b.Image(), want) {
						t.Fatalf("%s, act %d = %d: Image = %v, want %v", name, n, e, b.Image(), want)
					}
					for _, keep := range [][]int{nil, {1}, {20}, {9999, 9999}} {
						other := fs.Copy()
						other.Crash(keep...)
						c := opened(t, other, 1)
						if !fold.Same(c.Image(), want) || !c.Same(b) {
							t.Fatalf("%s, act %d = %d, and a crash: Image = %v, want %v", name, n, e, c.Image(), want)
						}
						if l := c.Store().Records(); len(l) != len(records(version)) && !(name == "Tidy" && len(l) == len(want)) {
							t.Fatalf("%s, act %d: it has %v", name, n, l)
						}
					}
				}
			}
		}
	}
}

// TestTheMapAlone: T4: a dump hangs on the image alone, and whatever base it is loaded into has that image; whatever else isn't loaded.
func TestTheMapAlone(t *testing.T) {
	pick := chance(5)
	for i := range 200 {
		version := 1 + i%3
		l := shuffled(pick, records(version))[:pick(7)]
		b := having(t, version, l)
		text, _ := b.Dump()
		image := imageOf(version, l)
		for range 2 {
			c := having(t, 1+pick(3), shuffled(pick, records(1)))
			wantE(t, "Load", c.Load(text), api.OK)
			wantBase(t, "loaded", c, 3, image)
			if again, _ := c.Dump(); again != text || !c.Same(b) || !b.Same(c) {
				t.Fatalf("its dump is %q, behind %q", again, text)
			}
			bent := []byte(text)
			bent[pick(len(bent))] ^= byte(1 + pick(255))
			if e := c.Load(string(bent)); e == api.OK {
				t.Fatalf("%q was loaded", bent)
			}
			wantBase(t, "not loaded", c, 3, image)
			// Compacted, or moved: it is the same dump.
			if pick(2) == 0 {
				_, e := b.Tidy(0)
				wantE(t, "Tidy", e, api.OK)
			} else {
				wantE(t, "Upgrade", b.Upgrade(b.Store().Version()+pick(4-b.Store().Version())), api.OK)
			}
			if again, _ := b.Dump(); again != text {
				t.Fatalf("its dump is %q, behind %q", again, text)
			}
		}
	}
}

// TestAsIfClean: T5: by a base that came of builds and crashes, tidied and moved on, a build gives what a clean one would; a target is kept only if its trace answers for it; at once again nothing is run; a graph that may not be is refused, and nothing is written.
func TestAsIfClean(t *testing.T) {
	pick := chance(6)
	for i := range 120 {
		fs := vfs.New()
		b := opened(t, fs, 1+i%3)
		for j := range 10 {
			l, given := right(pick), some(pick)
			switch pick(6) {
			case 0:
				fs.Fail(pick(6))
			case 1:
				fs.Fall(pick(6))
			case 2:
				b.Tidy(pick(5))
			case 3:
				b.Upgrade(1 + pick(3))
			}
			if _, e := b.Build(l, given, uint64(j), 1+pick(16)); e != api.OK {
				fs.Crash(pick(80))
				b = opened(t, fs, 1)
			}
			state := b.Image()
			steps, e := b.Build(l, given, uint64(j), 1+pick(16))
			wantE(t, "Build", e, api.OK)
			clean, _ := rule.Clean(l, given)
			contents := map[string]uint64{}
			for k, step := range steps {
				if step.Name != clean[k].Name || step.Contents != clean[k].Contents {
					t.Fatalf("Build = %v, want the contents of %v", steps, clean)
				}
				contents[step.Name] = step.Contents
			}
			for _, n := range l {
				deps := []uint64{}
				for _, d := range n.Deps {
					deps = append(deps, contents[d])
				}
				ran := slices.Contains(steps, api.Step{Name: n.Name, Ran: true, Contents: contents[n.Name]})
				if why := dirty.Why(n, state, dirty.Hashes(deps)); ran != (why != 0) {
					t.Fatalf("%q was run: %v, but it was %d", n.Name, ran, why)
				}
			}
			before := told(fs)
			again, e := b.Build(l, given, 99, 1+pick(16))
			wantE(t, "Build again", e, api.OK)
			if slices.ContainsFunc(again, func(step api.Step) bool { return step.Ran }) {
				t.Fatalf("Build again = %v", again)
			}
			for _, wrong := range [][]api.Node{append(slices.Clone(l), api.Node{Name: "x", Deps: []string{"y"}}), append(slices.Clone(l), api.Node{Name: "x", Deps: []string{"y"}}, api.Node{Name: "y", Deps: []string{"x"}}), make([]api.Node, 65), {{Name: ""}}} {
				_, want := crew.Waves(wrong)
				if steps, e := b.Build(wrong, given, 1, 2); e == api.OK || e != want || len(steps) > 0 {
					t.Fatalf("Build of what may not be = %v %d", steps, e)
				}
			}
			if told(fs) != before {
				t.Fatalf("what was refused, or clean, has left %s", told(fs))
			}
		}
	}
}
