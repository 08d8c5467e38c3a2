package vfs_test

import (
	"math"
	"slices"
	"strings"
	"testing"

	"tephra/api"
	"tephra/vfs"
)

// must holds an act's answer against OK.
func must(t *testing.T, e api.Errno) {
	t.Helper()
	if e != api.OK {
		t.Fatalf("an act answered %d", e)
	}
}

// wantE holds an act's answer against an error.
func wantE(t *testing.T, what string, e, want api.Errno) {
	t.Helper()
	if e != want {
		t.Fatalf("%s = %d, want %d", what, e, want)
	}
}

// wantFiles holds all that a file system tells of its files against what is wanted: of each its name, its bytes, how many are safe.
func wantFiles(t *testing.T, f *vfs.FS, want ...one) {
	t.Helper()
	names := []string{}
	for _, w := range want {
		names = append(names, w.name)
		if b, e := f.Read(w.name); e != api.OK || string(b) != w.bytes {
			t.Fatalf("Read(%q) = %q %d, want %q", w.name, b, e, w.bytes)
		}
		if n := f.Safe(w.name); n != w.safe {
			t.Fatalf("Safe(%q) = %d, want %d", w.name, n, w.safe)
		}
	}
	if got := f.Names(); !slices.Equal(got, names) {
		t.Fatalf("Names() = %q, want %q", got, names)
	}
	for _, name := range []string{"", "x", "y", "nowhere", "\xff"} {
		if slices.Contains(names, name) {
			continue
		}
		if b, e := f.Read(name); e != api.ErrNone || len(b) != 0 || f.Safe(name) != 0 {
			t.Fatalf("Read(%q) = %q %d, Safe %d: there is none", name, b, e, f.Safe(name))
		}
	}
}

// one: what is told of a file.
type one struct {
	name, bytes string
	safe        int
}

// made: a file system with these files.
func made(t *testing.T, files ...one) *vfs.FS {
	t.Helper()
	f := vfs.New()
	for _, w := range files {
		must(t, f.Append(w.name, []byte(w.bytes[:w.safe])))
		must(t, f.Sync(w.name))
		if w.safe < len(w.bytes) {
			must(t, f.Append(w.name, []byte(w.bytes[w.safe:])))
		}
	}
	wantFiles(t, f, files...)
	return f
}

func TestOfTheChapter(t *testing.T) {
	f := vfs.New()
	must(t, f.Append("x", []byte("ab")))
	must(t, f.Sync("x"))
	must(t, f.Append("x", []byte("cd")))
	wantFiles(t, f, one{"x", "abcd", 2})
	f.Crash(1)
	wantFiles(t, f, one{"x", "abc", 3})
}

func TestNew(t *testing.T) {
	f := vfs.New()
	wantFiles(t, f)
	if f.Down() {
		t.Error("a new one is down")
	}
	f.Crash()
	f.Crash(1, 2)
	wantFiles(t, f)
	must(t, f.Append("x", nil))
	wantFiles(t, f, one{"x", "", 0})
	wantFiles(t, vfs.New())
}

func TestAppend(t *testing.T) {
	f := vfs.New()
	must(t, f.Append("x", []byte{}))
	wantFiles(t, f, one{"x", "", 0})
	must(t, f.Append("x", []byte("ab")))
	wantFiles(t, f, one{"x", "ab", 0})
	must(t, f.Append("x", nil))
	wantFiles(t, f, one{"x", "ab", 0})
	must(t, f.Append("", []byte("\x00\xff")))
	must(t, f.Append("x", []byte("c")))
	wantFiles(t, f, one{"", "\x00\xff", 0}, one{"x", "abc", 0})
}

// TestNamesRise: any texts are names, told byte by byte.
func TestNamesRise(t *testing.T) {
	rising := []string{"", "\x00", " ", "A", "a", "a\x00", "aa", "b", "z", "\x7f", "\x80", "ä", "\xff", "\xff\xff", strings.Repeat("\xff", 300)}
	f := vfs.New()
	for i := range rising {
		must(t, f.Append(rising[i*7%len(rising)], nil))
	}
	if got := f.Names(); !slices.Equal(got, rising) {
		t.Errorf("Names() = %q, want %q", got, rising)
	}
}

func TestTruncate(t *testing.T) {
	for size := range 7 {
		f := made(t, one{"x", "abcdef", 4})
		must(t, f.Truncate("x", size))
		wantFiles(t, f, one{"x", "abcdef"[:size], min(size, 4)})
		must(t, f.Append("x", []byte("!?")))
		wantFiles(t, f, one{"x", "abcdef"[:size] + "!?", min(size, 4)})
		must(t, f.Sync("x"))
		wantFiles(t, f, one{"x", "abcdef"[:size] + "!?", size + 2})
	}
	f := made(t, one{"x", "abcdef", 4})
	for _, size := range []int{-1, -2, 7, 8, math.MinInt, math.MaxInt, math.MinInt32, math.MaxInt32} {
		wantE(t, "Truncate", f.Truncate("x", size), api.ErrArg)
		wantE(t, "Truncate of none", f.Truncate("y", size), api.ErrNone)
	}
	wantE(t, "Truncate of none", f.Truncate("y", 0), api.ErrNone)
	wantFiles(t, f, one{"x", "abcdef", 4})
}

func TestSync(t *testing.T) {
	f := made(t, one{"x", "abc", 1}, one{"y", "de", 0})
	must(t, f.Sync("x"))
	wantFiles(t, f, one{"x", "abc", 3}, one{"y", "de", 0})
	must(t, f.Sync("x"))
	wantE(t, "Sync of none", f.Sync("z"), api.ErrNone)
	wantE(t, "Sync of none", f.Sync(""), api.ErrNone)
	wantFiles(t, f, one{"x", "abc", 3}, one{"y", "de", 0})
}

func TestRename(t *testing.T) {
	x, y := one{"x", "abc", 1}, one{"y", "defg", 3}
	f := made(t, x, y)
	wantE(t, "Rename of none", f.Rename("z", "x"), api.ErrNone)
	wantE(t, "Rename of none", f.Rename("z", "z"), api.ErrNone)
	wantFiles(t, f, x, y)
	must(t, f.Rename("x", "x"))
	wantFiles(t, f, x, y)
	must(t, f.Rename("x", "w"))
	wantFiles(t, f, one{"w", "abc", 1}, y)
	must(t, f.Rename("y", "w"))
	wantFiles(t, f, one{"w", "defg", 3})
	must(t, f.Append("y", []byte("h")))
	must(t, f.Append("w", []byte("i")))
	wantFiles(t, f, one{"w", "defgi", 3}, one{"y", "h", 0})
	f.Crash()
	wantFiles(t, f, one{"w", "def", 3}, one{"y", "", 0})
}

func TestRemove(t *testing.T) {
	f := made(t, one{"x", "abc", 2}, one{"y", "d", 0})
	wantE(t, "Remove of none", f.Remove("z"), api.ErrNone)
	must(t, f.Remove("x"))
	wantFiles(t, f, one{"y", "d", 0})
	wantE(t, "Remove of none", f.Remove("x"), api.ErrNone)
	f.Crash(9)
	wantFiles(t, f, one{"y", "d", 1})
	must(t, f.Append("x", []byte("e")))
	wantFiles(t, f, one{"x", "e", 0}, one{"y", "d", 1})
}

// acts: each act, done to a file x that is there.
func acts() []struct {
	what string
	do   func(f *vfs.FS) api.Errno
	want []one
} {
	return []struct {
		what string
		do   func(f *vfs.FS) api.Errno
		want []one
	}{
		{"Append", func(f *vfs.FS) api.Errno { return f.Append("x", []byte("d")) }, []one{{"x", "abcd", 1}}},
		{"Append anew", func(f *vfs.FS) api.Errno { return f.Append("y", []byte("d")) }, []one{{"x", "abc", 1}, {"y", "d", 0}}},
		{"Append nothing", func(f *vfs.FS) api.Errno { return f.Append("x", nil) }, []one{{"x", "abc", 1}}},
		{"Truncate", func(f *vfs.FS) api.Errno { return f.Truncate("x", 2) }, []one{{"x", "ab", 1}}},
		{"Truncate nothing", func(f *vfs.FS) api.Errno { return f.Truncate("x", 3) }, []one{{"x", "abc", 1}}},
		{"Sync", func(f *vfs.FS) api.Errno { return f.Sync("x") }, []one{{"x", "abc", 3}}},
		{"Rename", func(f *vfs.FS) api.Errno { return f.Rename("x", "y") }, []one{{"y", "abc", 1}}},
		{"Rename to itself", func(f *vfs.FS) api.Errno { return f.Rename("x", "x") }, []one{{"x", "abc", 1}}},
		{"Remove", func(f *vfs.FS) api.Errno { return f.Remove("x") }, nil},
	}
}

// refused: acts that are refused of a file system that has but the file x of three bytes.
func refused() []struct {
	what string
	do   func(f *vfs.FS) api.Errno
	want api.Errno
} {
	return []struct {
		what string
		do   func(f *vfs.FS) api.Errno
		want api.Errno
	}{
		{"Truncate of none", func(f *vfs.FS) api.Errno { return f.Truncate("nowhere", 0) }, api.ErrNone},
		{"Truncate below 0", func(f *vfs.FS) api.Errno { return f.Truncate("x", -1) }, api.ErrArg},
		{"Truncate of too much", func(f *vfs.FS) api.Errno { return f.Truncate("x", 4) }, api.ErrArg},
		{"Sync of none", func(f *vfs.FS) api.Errno { return f.Sync("nowhere") }, api.ErrNone},
		{"Rename of none", func(f *vfs.FS) api.Errno { return f.Rename("nowhere", "x") }, api.ErrNone},
		{"Remove of none", func(f *vfs.FS) api.Errno { return f.Remove("nowhere") }, api.ErrNone},
	}
}

func TestEachActIsDone(t *testing.T) {
	for _, a := range acts() {
		f := made(t, one{"x", "abc", 1})
		wantE(t, a.what, a.do(f), api.OK)
		wantFiles(t, f, a.want...)
	}
}

// TestEachActFails: it isn't done, the next one is, and it isn't down.
func TestEachActFails(t *testing.T) {
	for _, a := range acts() {
		f := made(t, one{"x", "abc", 1})
		f.Fail(0)
		wantE(t, a.what, a.do(f), api.ErrIO)
		wantFiles(t, f, one{"x", "abc", 1})
		if f.Down() {
			t.Fatalf("%s failed, and it is down", a.what)
		}
		wantE(t, a.what, a.do(f), api.OK)
		wantFiles(t, f, a.want...)
	}
}

// TestEachActFallsAt: an Append is done, any other one isn't; acts are refused then, up to a crash.
func TestEachActFallsAt(t *testing.T) {
	for _, both := range []bool{false, true} {
		for _, a := range acts() {
			f := made(t, one{"x", "abc", 1})
			f.Fall(0)
			if both {
				f.Fail(0)
			}
			wantE(t, a.what, a.do(f), api.ErrDown)
			want := []one{{"x", "abc", 1}}
			if strings.HasPrefix(a.what, "Append") {
				want = a.want
			}
			wantFiles(t, f, want...)
			wantDown(t, f, want...)
			f.Crash(0)
			if f.Down() {
				t.Fatalf("%s: it is down behind a crash", a.what)
			}
			must(t, f.Append("x", []byte("!")))
			must(t, f.Sync("x"))
		}
	}
}

// wantDown holds a file system against being down: whatever is asked of it, acts answer ErrDown ahead of all else, nothing changes, and what isn't an act is answered.
func wantDown(t *testing.T, f *vfs.FS, want ...one) {
	t.Helper()
	for _, ask := range []func(int){f.Fail, f.Fall} {
		for _, n := range []int{-1, 0, 1} {
			ask(n)
			for _, a := range acts() {
				wantE(t, a.what+", when it is down", a.do(f), api.ErrDown)
			}
			for _, a := range refused() {
				wantE(t, a.what+", when it is down", a.do(f), api.ErrDown)
			}
		}
	}
	if !f.Down() {
		t.Fatal("it isn't down")
	}
	wantFiles(t, f, want...)
}

// TestActsAreCounted: the act fails, or it falls at it, that comes behind so many others; refused ones aren't acts.
func TestActsAreCounted(t *testing.T) {
	for n := range 12 {
		for which, want := range []api.Errno{api.ErrIO, api.ErrDown} {
			f := made(t, one{"x", "abc", 1})
			if which == 0 {
				f.Fail(n)
			} else {
				f.Fall(n)
			}
			text := "abc"
			for i := range n {
				for _, a := range refused() {
					if len(text) == 3 {
						wantE(t, a.what, a.do(f), a.want)
					}
				}
				f.Read("x")
				f.Read("nowhere")
				f.Names()
				f.Safe("x")
				f.Down()
				wantE(t, "Truncate of none", f.Truncate("nowhere", 0), api.ErrNone)
				if i%2 == 0 {
					must(t, f.Append("x", []byte("d")))
					text += "d"
				} else {
					must(t, f.Sync("x"))
				}
			}
			wantE(t, "Sync of none", f.Sync("nowhere"), api.ErrNone)
			wantE(t, "the act asked of", f.Sync("x"), want)
			if b, _ := f.Read("x"); string(b) != text || f.Down() != (which == 1) {
				t.Fatalf("behind %d acts: %q, down %v", n, b, f.Down())
			}
		}
	}
}

// TestFailedActsAreCounted: for an act that it falls at, failed ones count like done ones.
func TestFailedActsAreCounted(t *testing.T) {
	for failing, text := range []string{"123", "023", "013", "0123"} {
		f := vfs.New()
		f.Fail(failing)
		f.Fall(3)
		for i, b := range []string{"0", "1", "2", "3"} {
			want := api.OK
			if i == failing {
				want = api.ErrIO
			}
			if i == 3 {
				want = api.ErrDown
			}
			wantE(t, "Append of "+b, f.Append("x", []byte(b)), want)
		}
		wantFiles(t, f, one{"x", text, 0})
	}
}

// TestAskedAnew: the last one of several asks counts; below 0 none is asked to any more.
func TestAskedAnew(t *testing.T) {
	act := func(f *vfs.FS) api.Errno { return f.Append("x", []byte("!")) }
	for which, want := range []api.Errno{api.ErrIO, api.ErrDown} {
		ask := func(f *vfs.FS) func(int) {
			if which == 0 {
				return f.Fail
			}
			return f.Fall
		}
		for _, never := range []int{-1, -2, math.MinInt, math.MinInt32} {
			f := vfs.New()
			ask(f)(1)
			must(t, act(f))
			ask(f)(never)
			for range 5 {
				must(t, act(f))
			}
		}
		f := vfs.New()
		ask(f)(1)
		ask(f)(3)
		for range 3 {
			must(t, act(f))
		}
		wantE(t, "the fourth", act(f), want)
		for _, huge := range []int{math.MaxInt, math.MaxInt32} {
			f := vfs.New()
			ask(f)(huge)
			for range 5 {
				must(t, act(f))
			}
		}
	}
	f := vfs.New()
	f.Fail(0)
	f.Fall(-1)
	wantE(t, "the act asked of", act(f), api.ErrIO)
	f.Fall(0)
	f.Fail(-1)
	wantE(t, "the act asked of", act(f), api.ErrDown)
}

// TestCrashKeeps: files that have what isn't safe are told how much to keep, by their names.
func TestCrashKeeps(t *testing.T) {
	files := []one{{"a", "safe", 4}, {"b", "abcdef", 2}, {"c", "xyz", 0}, {"d", "", 0}, {"e", "12345", 4}}
	for i, x := range []struct {
		keep    []int
		b, c, e int
	}{
		{nil, 2, 0, 4},
		{[]int{}, 2, 0, 4},
		{[]int{0}, 2, 0, 4},
		{[]int{1}, 3, 0, 4},
		{[]int{4}, 6, 0, 4},
		{[]int{5}, 6, 0, 4},
		{[]int{math.MaxInt, math.MinInt, math.MaxInt32}, 6, 0, 5},
		{[]int{-1, 2}, 2, 2, 4},
		{[]int{0, 3, 1}, 2, 3, 5},
		{[]int{2, 1, 0}, 4, 1, 4},
		{[]int{1, 1, 1, 1, 1}, 3, 1, 5},
		{[]int{-5, -5, 9, 9}, 2, 0, 5},
	} {
		f := made(t, files...)
		keep := slices.Clone(x.keep)
		f.Crash(keep...)
		if !slices.Equal(keep, x.keep) {
			t.Errorf("%d: Crash changed what was handed in to %v", i, keep)
		}
		wantFiles(t, f, files[0], one{"b", "abcdef"[:x.b], x.b}, one{"c", "xyz"[:x.c], x.c}, files[3], one{"e", "12345"[:x.e], x.e})
		f.Crash(9, 9, 9, 9, 9)
		wantFiles(t, f, files[0], one{"b", "abcdef"[:x.b], x.b}, one{"c", "xyz"[:x.c], x.c}, files[3], one{"e", "12345"[:x.e], x.e})
	}
}

// TestCrashForgetsAsks: behind a crash nothing is asked of acts, whether it was down or not.
func TestCrashForgetsAsks(t *testing.T) {
	for _, down := range []bool{false, true} {
		f := vfs.New()
		must(t, f.Append("x", []byte("abc")))
		if down {
			f.Fall(0)
			wantE(t, "Sync", f.Sync("x"), api.ErrDown)
		}
		f.Fail(2)
		f.Fall(3)
		f.Crash(2)
		wantFiles(t, f, one{"x", "ab", 2})
		for range 6 {
			must(t, f.Append("x", []byte("!")))
		}
	}
}

// TestCopyGoesOnByItself: a copy is the same in all, also in what is asked and whether it is down.
func TestCopyGoesOnByItself(t *testing.T) {
	f := made(t, one{"x", "abc", 1}, one{"y", "de", 2})
	f.Fail(1)
	f.Fall(2)
	other := f.Copy()
	must(t, f.Append("x", []byte("f")))
	wantE(t, "the failing act", f.Sync("x"), api.ErrIO)
	wantE(t, "the act it falls at", f.Sync("x"), api.ErrDown)
	third := f.Copy()
	f.Crash()
	wantFiles(t, f, one{"x", "a", 1}, one{"y", "de", 2})
	wantFiles(t, other, one{"x", "abc", 1}, one{"y", "de", 2})
	wantFiles(t, third, one{"x", "abcf", 1}, one{"y", "de", 2})
	wantDown(t, third, one{"x", "abcf", 1}, one{"y", "de", 2})

	must(t, other.Remove("y"))
	wantE(t, "the copy's failing act", other.Rename("x", "z"), api.ErrIO)
	wantE(t, "the act that the copy falls at", other.Append("z", []byte("!")), api.ErrDown)
	wantFiles(t, other, one{"x", "abc", 1}, one{"z", "!", 0})
	wantFiles(t, f, one{"x", "a", 1}, one{"y", "de", 2})
	third.Crash(2)
	wantFiles(t, third, one{"x", "abc", 3}, one{"y", "de", 2})
}

// TestCopySharesNoRoom: behind a file's bytes there may be room, into which neither of both writes for the other.
func TestCopySharesNoRoom(t *testing.T) {
	for size := range 40 {
		f := vfs.New()
		for range size {
			must(t, f.Append("x", []byte("a")))
		}
		must(t, f.Append("x", nil))
		other := f.Copy()
		must(t, f.Append("x", []byte("bb")))
		must(t, other.Append("x", []byte("cc")))
		text := strings.Repeat("a", size)
		wantFiles(t, f, one{"x", text + "bb", 0})
		wantFiles(t, other, one{"x", text + "cc", 0})
		must(t, f.Truncate("x", size))
		third := f.Copy()
		must(t, third.Append("x", []byte("dd")))
		must(t, f.Append("x", []byte("ee")))
		wantFiles(t, f, one{"x", text + "ee", 0})
		wantFiles(t, third, one{"x", text + "dd", 0})
	}
}

// TestNothingIsShared: bytes that were handed in aren't kept, and what is answered is new memory.
func TestNothingIsShared(t *testing.T) {
	f := vfs.New()
	b := append(make([]byte, 0, 16), "abc"...)
	must(t, f.Append("x", b))
	copy(b, "!!!")
	wantFiles(t, f, one{"x", "abc", 0})
	must(t, f.Append("x", b))
	if string(b[:16:16][3:]) != strings.Repeat("\x00", 13) {
		t.Errorf("Append wrote into the room behind what was handed in: %q", b[:16])
	}
	read, _ := f.Read("x")
	clear(read)
	_ = append(read, "behind"...)
	must(t, f.Append("x", []byte("?")))
	again, _ := f.Read("x")
	copy(again, "zzz")
	wantFiles(t, f, one{"x", "abc!!!?", 0})
	names := f.Names()
	names[0] = "other"
	wantFiles(t, f, one{"x", "abc!!!?", 0})
}
