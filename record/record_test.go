package record_test

import (
	"math"
	"reflect"
	"slices"
	"strconv"
	"strings"
	"testing"

	"tephra/api"
	"tephra/record"
)

// long: a text of that many bytes.
func long(size int) string {
	return strings.Repeat("x", size)
}

// deps: deps of these names.
func deps(names ...string) []api.Dep {
	l := []api.Dep{}
	for i, name := range names {
		l = append(l, api.Dep{Name: name, Hash: uint64(i) * 77})
	}
	return l
}

// many: that many deps, no two alike.
func many(size int) []api.Dep {
	names := []string{}
	for i := range size {
		names = append(names, "d"+strconv.Itoa(i))
	}
	return deps(names...)
}

// trace: a trace of a, of these deps.
func trace(l ...api.Dep) api.Record {
	return api.Record{Kind: api.Trace, Target: "a", Rule: 3, Deps: l, Out: 5}
}

// but: a record of which something is another.
func but(r api.Record, change func(r *api.Record)) api.Record {
	change(&r)
	return r
}

// never: a version at which no record may be.
const never = 4

// versions: records, and the version from which on each may be.
func versions() []struct {
	what string
	r    api.Record
	from int
} {
	ordered := append(deps("b"), api.Dep{Name: "c", Order: true})
	gone := api.Record{Kind: api.Gone, Target: "a"}
	return []struct {
		what string
		r    api.Record
		from int
	}{
		{"nothing", api.Record{}, never},
		{"a plain trace", trace(), 1},
		{"a trace of zeros", api.Record{Kind: api.Trace, Target: "a"}, 1},
		{"a trace with empty deps", trace(deps()...), 1},
		{"the greatest numbers", api.Record{Kind: api.Trace, Target: "a", Rule: math.MaxUint64, Deps: []api.Dep{{Name: "b", Hash: math.MaxUint64}}, Out: math.MaxUint64}, 1},
		{"a target of no bytes", but(trace(), func(r *api.Record) { r.Target = "" }), never},
		{"a target of 64 bytes", but(trace(), func(r *api.Record) { r.Target = long(64) }), 1},
		{"a target of 65 bytes", but(trace(), func(r *api.Record) { r.Target = long(65) }), never},
		{"a target of 32 letters of two bytes", but(trace(), func(r *api.Record) { r.Target = strings.Repeat("ä", 32) }), 1},
		{"a target of 33 letters of two bytes", but(trace(), func(r *api.Record) { r.Target = strings.Repeat("ä", 33) }), never},
		{"a target of any bytes", but(trace(), func(r *api.Record) { r.Target = "\x00\xff\n " }), 1},
		{"a dep", trace(deps("b")...), 1},
		{"16 deps", trace(many(16)...), 1},
		{"17 deps", trace(many(17)...), never},
		{"many deps", trace(many(1000)...), never},
		{"17 deps alike", trace(slices.Repeat(deps("b"), 17)...), never},
		{"a dep without a name", trace(deps("b", "")...), never},
		{"a dep of 64 bytes", trace(deps(long(64))...), 1},
		{"a dep of 65 bytes", trace(deps(long(65))...), never},
		{"two deps alike", trace(deps("b", "b")...), never},
		{"two deps alike, others between", trace(deps("c", "b", "d", "c")...), never},
		{"two deps alike but for the rest", trace(api.Dep{Name: "b"}, api.Dep{Name: "b", Hash: 1, Order: true}), never},
		{"two deps nearly alike", trace(deps("b", "B", "b ", "b\x00")...), 1},
		{"the target as a dep", trace(deps("a")...), never},
		{"the target as the last dep", trace(deps("c", "b", "a")...), never},
		{"a dep near to the target", trace(deps("A", "aa", "a\x00")...), 1},
		{"a time", but(trace(), func(r *api.Record) { r.When = 1 }), 2},
		{"the greatest time", but(trace(), func(r *api.Record) { r.When = math.MaxUint64 }), 2},
		{"a tag", but(trace(), func(r *api.Record) { r.Tag = "t" }), 3},
		{"a tag of any bytes", but(trace(), func(r *api.Record) { r.Tag = "\x00" }), 3},
		{"a tag of 64 bytes", but(trace(), func(r *api.Record) { r.Tag = long(64) }), 3},
		{"a tag of 65 bytes", but(trace(), func(r *api.Record) { r.Tag = long(65) }), never},
		{"the target as a tag", but(trace(), func(r *api.Record) { r.Tag = "a" }), 3},
		{"a dep as a tag", but(trace(deps("b")...), func(r *api.Record) { r.Tag = "b" }), 3},
		{"an order", trace(ordered...), 3},
		{"an order, first", trace(ordered[1], ordered[0]), 3},
		{"an order with a hash", trace(api.Dep{Name: "b", Hash: 9, Order: true}), 3},
		{"all of it", but(trace(ordered...), func(r *api.Record) { r.When, r.Tag = 9, "t" }), 3},
		{"gone", gone, 1},
		{"gone, with empty deps", but(gone, func(r *api.Record) { r.Deps = deps() }), 1},
		{"gone, of 64 bytes", but(gone, func(r *api.Record) { r.Target = long(64) }), 1},
		{"gone, of 65 bytes", but(gone, func(r *api.Record) { r.Target = long(65) }), never},
		{"gone, of no bytes", but(gone, func(r *api.Record) { r.Target = "" }), never},
		{"gone, with a rule", but(gone, func(r *api.Record) { r.Rule = 1 }), never},
		{"gone, with a dep", but(gone, func(r *api.Record) { r.Deps = deps("b") }), never},
		{"gone, with a dep of zeros", but(gone, func(r *api.Record) { r.Deps = deps("") }), never},
		{"gone, with an out", but(gone, func(r *api.Record) { r.Out = 1 }), never},
		{"gone, with a time", but(gone, func(r *api.Record) { r.When = 1 }), never},
		{"gone, with a tag", but(gone, func(r *api.Record) { r.Tag = "t" }), never},
		{"no kind", but(trace(), func(r *api.Record) { r.Kind = 0 }), never},
		{"a kind below", but(trace(), func(r *api.Record) { r.Kind = -1 }), never},
		{"a kind above", but(gone, func(r *api.Record) { r.Kind = 3 }), never},
		{"a huge kind", but(gone, func(r *api.Record) { r.Kind = math.MaxInt }), never},
		{"the least kind", but(trace(), func(r *api.Record) { r.Kind = math.MinInt }), never},
		{"a kind of 33 bits", but(trace(), func(r *api.Record) { r.Kind = 1<<32 + 1 }), never},
	}
}

func TestName(t *testing.T) {
	for size := range 200 {
		if ok := record.Name(long(size)); ok != (size >= 1 && size <= 64) {
			t.Errorf("Name of %d bytes: %v", size, ok)
		}
	}
	for _, s := range []string{"\x00", " ", "\n", "\xff\xfe", "ä", "/", strings.Repeat("\x00", 64), strings.Repeat("ä", 32)} {
		if !record.Name(s) {
			t.Errorf("%q is no name", s)
		}
	}
	for _, s := range []string{strings.Repeat("\x00", 65), strings.Repeat("ä", 33), strings.Repeat("ä", 64), long(1 << 16)} {
		if record.Name(s) {
			t.Errorf("%q of %d bytes is a name", s[:9], len(s))
		}
	}
}

func TestMay(t *testing.T) {
	for _, x := range versions() {
		for version := 1; version <= 3; version++ {
			if ok := record.May(version, x.r); ok != (version >= x.from) {
				t.Errorf("May(%d, %s) = %v", version, x.what, ok)
			}
		}
	}
}

func TestMayWantsAVersion(t *testing.T) {
	for _, x := range versions() {
		for _, version := range []int{0, -1, -3, 4, 5, 1 << 32, 1<<32 + 1, math.MaxInt, math.MinInt} {
			if record.May(version, x.r) {
				t.Errorf("May(%d, %s)", version, x.what)
			}
		}
	}
}

func TestOnward(t *testing.T) {
	for _, x := range versions() {
		for version := 1; version < 3; version++ {
			if record.May(version, x.r) && !record.May(version+1, x.r) {
				t.Errorf("%s may be at the version %d, not at the next", x.what, version)
			}
		}
	}
}

// unlike: records of which no two are the same.
func unlike() []api.Record {
	all := []api.Record{
		{},
		{Kind: 1},
		{Kind: 2},
		{Kind: -1},
		{Target: "a"},
		{Rule: 1},
		{Out: 1},
		{When: 1},
		{Tag: "a"},
		{Kind: 1, Target: "a"},
		{Kind: 1, Target: "b"},
		{Kind: 1, Target: "a", Rule: 1, Out: 2, When: 3, Tag: "t"},
		{Kind: 1, Target: "a", Rule: 2, Out: 1, When: 3, Tag: "t"},
		{Kind: 1, Target: "a", Rule: 1, Out: 3, When: 2, Tag: "t"},
		{Kind: 1, Target: "t", Rule: 1, Out: 2, When: 3, Tag: "a"},
		{Kind: 1, Target: "a", Rule: 1, Out: 2, When: 3, Tag: "t\x00"},
		{Rule: 1 << 63},
		{Rule: math.MaxUint64},
	}
	for _, l := range [][]api.Dep{
		{{}},
		{{}, {}},
		{{Name: "b"}},
		{{Name: "b", Hash: 1}},
		{{Name: "b", Order: true}},
		{{Name: "b"}, {Name: "c"}},
		{{Name: "c"}, {Name: "b"}},
		{{Name: "b"}, {Name: "b"}},
		{{Name: "b", Hash: 1}, {Name: "c", Hash: 2}},
		{{Name: "b", Hash: 2}, {Name: "c", Hash: 1}},
		{{Name: "b", Order: true}, {Name: "c"}},
		{{Name: "b"}, {Name: "c", Order: true}},
		many(16),
		many(17),
		append(many(16), api.Dep{Name: "d16", Hash: 1}),
	} {
		all = append(all, trace(l...))
	}
	return all
}

func TestSame(t *testing.T) {
	for i, a := range unlike() {
		for j, b := range unlike() {
			if same := record.Same(a, b); same != (i == j) {
				t.Errorf("Same(%v, %v) = %v", a, b, same)
			}
		}
	}
}

func TestSameTakesNilAsEmpty(t *testing.T) {
	for _, x := range unlike() {
		if len(x.Deps) > 0 {
			continue
		}
		none, empty, room := x, x, x
		none.Deps, empty.Deps, room.Deps = nil, []api.Dep{}, many(3)[:0]
		for _, a := range []api.Record{none, empty, room} {
			for _, b := range []api.Record{none, empty, room} {
				if !record.Same(a, b) {
					t.Errorf("of no deps, Same(%v, %v) = false", a, b)
				}
			}
		}
	}
}

// TestSameSeesNoRoom: what stands in the room behind a record's deps isn't of the record.
func TestSameSeesNoRoom(t *testing.T) {
	one, other := trace(deps("b", "c")[:1]...), trace(deps("b", "d")[:1]...)
	if !record.Same(one, other) || record.Same(one, trace(one.Deps[:2]...)) {
		t.Error("what stands behind the deps was looked at")
	}
	if l := record.Names(one); !slices.Equal(l, []string{"a", "b"}) {
		t.Errorf("Names = %q", l)
	}
	if c := record.Clone(one); len(c.Deps) != 1 {
		t.Errorf("Clone has %v", c.Deps)
	}
	if r := trace(append(deps("b"), deps("b")...)[:1]...); !record.May(1, r) {
		t.Error("what stands behind the deps was held against")
	}
}

func TestCloneIsTheSame(t *testing.T) {
	for _, r := range unlike() {
		c := record.Clone(r)
		if !record.Same(c, r) {
			t.Errorf("Clone(%v) = %v", r, c)
		}
		if len(r.Deps) > 0 && !reflect.DeepEqual(c, r) {
			t.Errorf("Clone(%v) = %v", r, c)
		}
	}
}

func TestCloneIsNewMemory(t *testing.T) {
	r := trace(many(5)[:3]...)
	c, want := record.Clone(r), record.Clone(r)
	r.Deps[0].Name, r.Deps[1].Hash, r.Deps[2].Order = "X", 99, true
	if !record.Same(c, want) {
		t.Errorf("whoever wrote into a record changed its clone: %v", c)
	}
	kept := record.Clone(r)
	c.Deps[0].Hash = 7
	_ = append(c.Deps, api.Dep{Name: "Y"})
	if !record.Same(r, kept) || r.Deps[:5][3] != many(5)[3] {
		t.Errorf("whoever wrote into a clone changed the record: %v", r.Deps[:5])
	}
	empty := trace(many(2)[:0]...)
	_ = append(record.Clone(empty).Deps, api.Dep{Name: "Z"})
	if empty.Deps[:1][0].Name != "d0" {
		t.Errorf("the clone of no deps shares their room: %v", empty.Deps[:1])
	}
}

func TestNames(t *testing.T) {
	tagged := func(r api.Record, tag string) api.Record {
		r.Tag = tag
		return r
	}
	for _, x := range []struct {
		r    api.Record
		want []string
	}{
		{api.Record{}, []string{""}},
		{api.Record{Tag: "t"}, []string{"", "t"}},
		{api.Record{Kind: api.Gone, Target: "a"}, []string{"a"}},
		{api.Record{Kind: api.Gone, Target: "a", Deps: deps("b"), Tag: "t"}, []string{"a", "b", "t"}},
		{trace(), []string{"a"}},
		{trace(deps("b", "c")...), []string{"a", "b", "c"}},
		{trace(deps("c", "b")...), []string{"a", "c", "b"}},
		{trace(deps("c", "b", "c", "a", "d")...), []string{"a", "c", "b", "d"}},
		{trace(deps("", "b", "")...), []string{"a", "", "b"}},
		{tagged(trace(), "t"), []string{"a", "t"}},
		{tagged(trace(), "a"), []string{"a"}},
		{tagged(trace(deps("c", "b")...), "t"), []string{"a", "c", "b", "t"}},
		{tagged(trace(deps("c", "b")...), "c"), []string{"a", "c", "b"}},
		{tagged(trace(deps("c", "b")...), "a"), []string{"a", "c", "b"}},
		{tagged(trace(deps("t")...), "t"), []string{"a", "t"}},
	} {
		given := record.Clone(x.r)
		first := record.Names(given)
		if !slices.Equal(first, x.want) {
			t.Errorf("Names(%v) = %q, want %q", x.r, first, x.want)
		}
		clear(first)
		if again := record.Names(given); !slices.Equal(again, x.want) || !record.Same(given, x.r) {
			t.Errorf("Names(%v) shares memory, or writes into what is handed in", x.r)
		}
	}
	if l := record.Names(trace(many(500)...)); len(l) != 501 || l[0] != "a" || l[500] != "d499" {
		t.Errorf("of 500 deps: %d names", len(l))
	}
}

// told: whether a record may be, in the words of the chapter.
func told(version int, r api.Record) bool {
	name := func(s string) bool { return len(s) >= 1 && len(s) <= 64 }
	if version < 1 || version > 3 {
		return false
	}
	if r.Kind == 2 {
		return name(r.Target) && r.Rule == 0 && len(r.Deps) == 0 && r.Out == 0 && r.When == 0 && r.Tag == ""
	}
	if r.Kind != 1 || !name(r.Target) || len(r.Deps) > 16 || len(r.Tag) > 64 {
		return false
	}
	seen := map[string]bool{r.Target: true}
	for _, d := range r.Deps {
		if !name(d.Name) || seen[d.Name] || d.Order && version != 3 {
			return false
		}
		seen[d.Name] = true
	}
	return !(version == 1 && r.When != 0) && !(version != 3 && r.Tag != "")
}

// TestMayIsAsTold: records that are put together of few things, so that often they may be, and often nearly.
func TestMayIsAsTold(t *testing.T) {
	texts := []string{"", "a", "b", "c", "d", long(64), long(65)}
	x := uint64(5)
	pick := func(n uint64) uint64 {
		x = x*6364136223846793005 + 1442695040888963407
		return x >> 33 % n
	}
	counts := map[bool]int{}
	for range 100000 {
		r := api.Record{Kind: int(pick(40)+38)/39 + int(pick(2)), Target: texts[(pick(20)+1)%7%6]}
		if pick(2) == 0 {
			r.When = pick(2)
			r.Rule = pick(2)
		}
		if pick(3) == 0 {
			r.Tag = texts[pick(7)]
		}
		for range pick(4) {
			r.Deps = append(r.Deps, api.Dep{Name: texts[pick(5)], Hash: pick(3), Order: pick(4) == 0})
		}
		for version := range 5 {
			want := told(version, r)
			counts[want]++
			if ok := record.May(version, r); ok != want {
				t.Fatalf("May(%d, %v) = %v", version, r, ok)
			}
		}
	}
	if counts[true] < 10000 || counts[false] < 10000 {
		t.Errorf("the records are all of one kind: %v", counts)
	}
}
