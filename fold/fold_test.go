package fold_test

import (
	"math"
	"slices"
	"strconv"
	"strings"
	"testing"

	"tephra/api"
	"tephra/fold"
	"tephra/record"
)

// trace: a trace of a target, told apart from others of it by a number.
func trace(target string, number uint64) api.Record {
	return api.Record{Kind: api.Trace, Target: target, Rule: number, Deps: []api.Dep{{Name: "dep", Hash: number}}, Out: number}
}

// gone: the record that a target is.
func gone(target string) api.Record {
	return api.Record{Kind: api.Gone, Target: target}
}

// but: a record of which something is another.
func but(r api.Record, change func(r *api.Record)) api.Record {
	r = record.Clone(r)
	change(&r)
	return r
}

// rising: targets, each behind those that are less, byte by byte.
var rising = []string{"", "\x00", "\x00\x00", " ", "A", "B", "a", "a\x00", "a ", "aa", "ab", "b", "ba", "z", "\x7f", "\x80", "ä", "ä!", "\xff", "\xff\xff", strings.Repeat("\xff", 300)}

// told: the fold of records in the words of the chapter, as a list that is gone through.
func told(l []api.Record) []api.Record {
	state := []api.Record{}
	for _, r := range l {
		at := slices.IndexFunc(state, func(one api.Record) bool { return one.Target == r.Target })
		switch {
		case r.Kind == 1 && at >= 0:
			state[at] = r
		case r.Kind == 1:
			behind := 0
			for behind < len(state) && state[behind].Target < r.Target {
				behind++
			}
			state = slices.Insert(state, behind, r)
		case r.Kind == 2 && at >= 0:
			state = slices.Delete(state, at, at+1)
		}
	}
	return state
}

// wantList holds records against those that are wanted.
func wantList(t *testing.T, what string, got, want []api.Record) {
	t.Helper()
	if !slices.EqualFunc(got, want, record.Same) {
		t.Fatalf("%s = %v, want %v", what, got, want)
	}
}

// chance: numbers that look like chance.
func chance(seed uint64) func(n int) int {
	x := seed
	return func(n int) int {
		x = x*6364136223846793005 + 1442695040888963407
		return int(x >> 33 % uint64(n))
	}
}

// some: that many records of a few targets, most of them traces.
func some(pick func(int) int, size int) []api.Record {
	l := []api.Record{}
	for i := range size {
		r := trace(rising[pick(len(rising))], uint64(i))
		switch pick(8) {
		case 0, 1:
			r = gone(r.Target)
		case 2:
			r.Kind = []int{0, 3, -1, 257, 258, math.MaxInt, math.MinInt}[pick(7)]
		}
		l = append(l, r)
	}
	return l
}

func TestOfTheChapter(t *testing.T) {
	a, b, other := trace("a", 1), trace("b", 2), trace("a", 3)
	odd := but(a, func(r *api.Record) { r.Kind = 3 })
	none := but(gone("a"), func(r *api.Record) { r.Kind = 0 })
	full := but(gone("a"), func(r *api.Record) { r.Rule, r.When, r.Tag, r.Deps = 1, 2, "t", a.Deps })
	for i, x := range []struct{ l, want []api.Record }{
		{nil, nil},
		{[]api.Record{}, nil},
		{[]api.Record{a}, []api.Record{a}},
		{[]api.Record{a, b, gone("a")}, []api.Record{b}},
		{[]api.Record{b, a}, []api.Record{a, b}},
		{[]api.Record{a, other}, []api.Record{other}},
		{[]api.Record{a, b, other}, []api.Record{other, b}},
		{[]api.Record{gone("a")}, nil},
		{[]api.Record{gone("a"), a}, []api.Record{a}},
		{[]api.Record{a, gone("a"), gone("a"), other}, []api.Record{other}},
		{[]api.Record{a, gone("A"), gone(""), gone("a\x00"), gone("dep")}, []api.Record{a}},
		{[]api.Record{a, odd, none, b, odd}, []api.Record{a, b}},
		{[]api.Record{odd, none, {}}, nil},
		{[]api.Record{a, b, full}, []api.Record{b}},
	} {
		if got := fold.Of(x.l); !slices.EqualFunc(got, x.want, record.Same) {
			t.Errorf("%d: Of = %v, want %v", i, got, x.want)
		}
	}
}

// TestAnyTraceCounts: traces that may be at no version are put in like others.
func TestAnyTraceCounts(t *testing.T) {
	for _, r := range []api.Record{{Kind: api.Trace}, trace(strings.Repeat("x", 65), 1), but(trace("a", 1), func(r *api.Record) { r.Tag, r.Deps = strings.Repeat("t", 65), slices.Repeat(r.Deps, 17) })} {
		wantList(t, "Of", fold.Of([]api.Record{r}), []api.Record{r})
		if !fold.Right([]api.Record{r}) {
			t.Errorf("Right(%v) = false", r)
		}
		if found, ok := fold.Find([]api.Record{r}, r.Target); !ok || !record.Same(found, r) {
			t.Errorf("Find = %v %v, want %v", found, ok, r)
		}
	}
}

func TestRisingByBytes(t *testing.T) {
	want := []api.Record{}
	for i, target := range rising {
		want = append(want, trace(target, uint64(i)))
	}
	for seed := range uint64(50) {
		pick := chance(seed)
		l := slices.Clone(want)
		for i := range l {
			j := i + pick(len(l)-i)
			l[i], l[j] = l[j], l[i]
		}
		wantList(t, "Of", fold.Of(l), want)
	}
}

func TestOfAndPut(t *testing.T) {
	for seed := range uint64(300) {
		l := some(chance(seed), 40)
		state := []api.Record{}
		for i, r := range l {
			state = fold.Put(state, r)
			wantList(t, "Put", state, told(l[:i+1]))
		}
		wantList(t, "Of", fold.Of(l), told(l))
	}
}

// TestPutIntoAnyRecords: what stands ahead needs be no state.
func TestPutIntoAnyRecords(t *testing.T) {
	a, b := trace("a", 1), trace("b", 2)
	wantList(t, "Put", fold.Put(nil, b), []api.Record{b})
	wantList(t, "Put", fold.Put([]api.Record{b, a, gone("b")}, gone("c")), []api.Record{a})
	wantList(t, "Put", fold.Put([]api.Record{b, a}, api.Record{}), []api.Record{a, b})
	for seed := range uint64(300) {
		l := some(chance(seed), 21)
		wantList(t, "Put", fold.Put(l[:20], l[20]), told(l))
	}
}

// TestTheLastCounts: a fold is a state, and its own fold; parted anywhere, it is that of the first ones' fold and the others.
func TestTheLastCounts(t *testing.T) {
	for seed := range uint64(200) {
		l := some(chance(seed), 30)
		state := fold.Of(l)
		if !fold.Right(state) {
			t.Fatalf("Of(%v) = %v, which is no state", l, state)
		}
		wantList(t, "the fold of a fold", fold.Of(state), state)
		for i := range len(l) + 1 {
			wantList(t, "of parts", fold.Of(slices.Concat(fold.Of(l[:i]), l[i:])), state)
		}
		for _, r := range l {
			last := slices.IndexFunc(state, func(one api.Record) bool { return one.Target == r.Target })
			found, ok := fold.Find(state, r.Target)
			if ok != (last >= 0) || ok && !record.Same(found, state[last]) {
				t.Fatalf("Find(%q) = %v %v of %v", r.Target, found, ok, state)
			}
		}
	}
}

func TestFind(t *testing.T) {
	a, b, other := trace("a", 1), trace("b", 2), trace("a", 3)
	odd := but(trace("a", 4), func(r *api.Record) { r.Kind = 3 })
	for i, x := range []struct {
		l      []api.Record
		target string
		want   api.Record
		ok     bool
	}{
		{nil, "a", api.Record{}, false},
		{nil, "", api.Record{}, false},
		{[]api.Record{a, b}, "a", a, true},
		{[]api.Record{a, b}, "b", b, true},
		{[]api.Record{a, b}, "c", api.Record{}, false},
		{[]api.Record{a, b}, "", api.Record{}, false},
		{[]api.Record{a, b}, "A", api.Record{}, false},
		{[]api.Record{a, b}, "dep", api.Record{}, false},
		// Of records that are no state: the last trace, whatever stands behind it.
		{[]api.Record{a, b, other}, "a", other, true},
		{[]api.Record{other, b, a}, "a", a, true},
		{[]api.Record{b, a, gone("a"), odd}, "a", a, true},
		{[]api.Record{gone("a"), odd, {}}, "a", api.Record{}, false},
		{[]api.Record{gone("a"), odd, {}}, "", api.Record{}, false},
	} {
		if r, ok := fold.Find(x.l, x.target); ok != x.ok || !record.Same(r, x.want) {
			t.Errorf("%d: Find(%q) = %v %v, want %v", i, x.target, r, ok, x.want)
		}
	}
}

func TestRight(t *testing.T) {
	a, b, c := trace("a", 1), trace("b", 2), trace("c", 3)
	for i, x := range []struct {
		l    []api.Record
		want bool
	}{
		{nil, true},
		{[]api.Record{}, true},
		{[]api.Record{a}, true},
		{[]api.Record{a, b, c}, true},
		{[]api.Record{a, c}, true},
		{[]api.Record{b, a}, false},
		{[]api.Record{a, c, b}, false},
		{[]api.Record{b, a, c}, false},
		{[]api.Record{a, a}, false},
		{[]api.Record{a, trace("a", 2)}, false},
		{[]api.Record{a, b, trace("a", 2)}, false},
		{[]api.Record{gone("a")}, false},
		{[]api.Record{a, gone("b")}, false},
		{[]api.Record{gone("a"), b}, false},
		{[]api.Record{{}}, false},
		{[]api.Record{a, {Kind: 3, Target: "b"}}, false},
		{[]api.Record{a, {Kind: 257, Target: "b"}}, false},
	} {
		if got := fold.Right(x.l); got != x.want {
			t.Errorf("%d: Right(%v) = %v", i, x.l, got)
		}
	}
	for i := range rising {
		for j := range rising {
			if got := fold.Right([]api.Record{trace(rising[i], 1), trace(rising[j], 1)}); got != (i < j) {
				t.Errorf("Right of %q and %q = %v", rising[i], rising[j], got)
			}
		}
	}
}

func TestSame(t *testing.T) {
	a, b := trace("a", 1), trace("b", 2)
	lists := [][]api.Record{
		nil,
		{a},
		{b},
		{a, b},
		{b, a},
		{a, a},
		{a, b, b},
		{gone("a")},
		{{}},
		{{}, {}},
		{but(a, func(r *api.Record) { r.Kind = 3 })},
		{but(a, func(r *api.Record) { r.Target = "A" })},
		{but(a, func(r *api.Record) { r.Rule++ })},
		{but(a, func(r *api.Record) { r.Out++ })},
		{but(a, func(r *api.Record) { r.When++ })},
		{but(a, func(r *api.Record) { r.Tag = "t" })},
		{but(a, func(r *api.Record) { r.Deps = nil })},
		{but(a, func(r *api.Record) { r.Deps[0].Hash++ })},
		{but(a, func(r *api.Record) { r.Deps[0].Order = true })},
		{a, but(b, func(r *api.Record) { r.Deps[0].Name = "other" })},
	}
	for i, one := range lists {
		for j, other := range lists {
			again := []api.Record{}
			for _, r := range other {
				again = append(again, record.Clone(r))
			}
			if got := fold.Same(one, again); got != (i == j) {
				t.Errorf("Same of %d and %d = %v", i, j, got)
			}
		}
	}
	empty := []api.Record{but(a, func(r *api.Record) { r.Deps = []api.Dep{} })}
	if !fold.Same(nil, []api.Record{}) || !fold.Same([]api.Record{but(a, func(r *api.Record) { r.Deps = nil })}, empty) {
		t.Error("a nil list isn't the same as an empty one")
	}
}

// TestNothingIsShared: what is handed in isn't changed, and what is answered is new memory, each list of it.
func TestNothingIsShared(t *testing.T) {
	deps := []api.Dep{{Name: "x", Hash: 1}, {Name: "y", Hash: 2}}
	a := api.Record{Kind: api.Trace, Target: "a", Deps: deps}
	b := api.Record{Kind: api.Trace, Target: "b", Deps: deps[:1]}
	given := []api.Record{a, b}
	kept := []api.Record{record.Clone(a), record.Clone(b)}
	spoil := func(l ...api.Record) {
		for _, r := range l {
			clear(r.Deps)
			_ = append(r.Deps, api.Dep{Name: "behind"})
		}
		clear(l)
	}
	found, _ := fold.Find(given, "b")
	spoil(found)
	spoil(fold.Of(given)...)
	spoil(fold.Put(given, b)...)
	spoil(fold.Put(nil, b)...)
	_ = append(fold.Of(given[:1]), gone("behind"))
	wantList(t, "what was handed in", given, kept)
	wantList(t, "the room behind it", []api.Record{{Deps: deps}}, []api.Record{{Deps: []api.Dep{{Name: "x", Hash: 1}, {Name: "y", Hash: 2}}}})

	of, put := fold.Of(given), fold.Put(given[:1], b)
	found, _ = fold.Find(given, "a")
	clear(deps)
	clear(given)
	wantList(t, "Of", of, kept)
	wantList(t, "Put", put, kept)
	wantList(t, "Find", []api.Record{found}, kept[:1])
	clear(of[0].Deps)
	wantList(t, "another record of it", of[1:], kept[1:])
}

func TestManyTargets(t *testing.T) {
	const size = 20000
	target := func(i int) string { return strconv.Itoa(size*10 + i) }
	l, want := []api.Record{}, []api.Record{}
	for i := range size {
		l = append(l, trace(target(i*7919%size), 1))
	}
	for i := range size {
		if i%2 == 0 {
			l = append(l, gone(target(i)))
			continue
		}
		l = append(l, trace(target(i), uint64(i)))
		want = append(want, trace(target(i), uint64(i)))
	}
	wantList(t, "Of", fold.Of(l), want)
}
