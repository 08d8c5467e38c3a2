package migrate_test

import (
	"math"
	"slices"
	"strings"
	"testing"

	"tephra/api"
	"tephra/migrate"
	"tephra/record"
)

// but: a record of which something is another.
func but(r api.Record, change func(r *api.Record)) api.Record {
	r = record.Clone(r)
	change(&r)
	return r
}

// plain: a trace that may be at all versions.
func plain() api.Record {
	return api.Record{Kind: api.Trace, Target: "a", Rule: 3, Deps: []api.Dep{{Name: "b", Hash: 4}, {Name: "c", Hash: math.MaxUint64}}, Out: 5}
}

// gone: the record that a target is.
func gone(target string) api.Record {
	return api.Record{Kind: api.Gone, Target: target}
}

// records: some that may be at no version, at some, or at all.
func records() []api.Record {
	long := strings.Repeat("x", 65)
	return []api.Record{
		plain(),
		{Kind: api.Trace, Target: "a"},
		{Kind: api.Trace, Target: long[:64], Rule: math.MaxUint64, Out: math.MaxUint64},
		gone("a"), gone("\x00"), gone("old"),
		but(plain(), func(r *api.Record) { r.Deps = nil }),
		but(plain(), func(r *api.Record) { r.Deps = []api.Dep{} }),
		but(plain(), func(r *api.Record) { r.Target = "old" }),
		but(plain(), func(r *api.Record) { r.When = 1 }),
		but(plain(), func(r *api.Record) { r.When = 2 }),
		but(plain(), func(r *api.Record) { r.When = math.MaxUint64 }),
		but(plain(), func(r *api.Record) { r.Tag = "old" }),
		but(plain(), func(r *api.Record) { r.Tag = "t" }),
		but(plain(), func(r *api.Record) { r.When, r.Tag = 9, "t" }),
		but(plain(), func(r *api.Record) { r.Deps[1].Order = true }),
		but(plain(), func(r *api.Record) { r.When, r.Tag, r.Deps[0].Order = 9, long[:64], true }),
		but(plain(), func(r *api.Record) { r.Tag = long }),
		but(plain(), func(r *api.Record) { r.Target = "" }),
		but(plain(), func(r *api.Record) { r.Target = long }),
		but(plain(), func(r *api.Record) { r.Deps[1].Name = "a" }),
		but(plain(), func(r *api.Record) { r.Kind = 0 }),
		but(plain(), func(r *api.Record) { r.Kind = 3 }),
		but(plain(), func(r *api.Record) { r.Kind = api.Gone }),
		but(gone("a"), func(r *api.Record) { r.When = 1 }),
		{},
	}
}

// versions: such as there are, and others.
func versions() []int {
	return []int{math.MinInt, -1, 0, 1, 2, 3, 4, 257, 1<<32 + 1, math.MaxInt - 1, math.MaxInt}
}

// told: a record that is moved, in the words of the chapter.
func told(from, to int, r api.Record) (api.Record, api.Errno) {
	if from < 1 || from > 3 || to < 1 || to > 3 || to < from {
		return api.Record{}, api.ErrVersion
	}
	if !record.May(from, r) {
		return api.Record{}, api.ErrArg
	}
	r = record.Clone(r)
	if r.Kind == 1 && from < 2 && to >= 2 {
		r.When = 1
	}
	if r.Kind == 1 && from < 3 && to >= 3 {
		r.Tag = "old"
	}
	return r, api.OK
}

func TestOfTheChapter(t *testing.T) {
	timed := but(plain(), func(r *api.Record) { r.When = 7 })
	tagged := but(plain(), func(r *api.Record) { r.When, r.Tag, r.Deps[0].Order = 7, "t", true })
	for i, x := range []struct {
		from, to int
		r, want  api.Record
	}{
		{1, 1, plain(), plain()},
		{1, 2, plain(), but(plain(), func(r *api.Record) { r.When = 1 })},
		{1, 3, plain(), but(plain(), func(r *api.Record) { r.When, r.Tag = 1, "old" })},
		{2, 2, plain(), plain()},
		{2, 3, plain(), but(plain(), func(r *api.Record) { r.Tag = "old" })},
		{2, 3, timed, but(timed, func(r *api.Record) { r.Tag = "old" })},
		{3, 3, plain(), plain()},
		{3, 3, tagged, tagged},
		{1, 3, gone("a"), gone("a")},
	} {
		if r, e := migrate.To(x.from, x.to, x.r); e != api.OK || !record.Same(r, x.want) {
			t.Errorf("%d: To = %v %d, want %v", i, r, e, x.want)
		}
		if x.to != x.from+1 {
			continue
		}
		if r, e := migrate.Step(x.from, x.r); e != api.OK || !record.Same(r, x.want) {
			t.Errorf("%d: Step = %v %d, want %v", i, r, e, x.want)
		}
	}
}

func TestTo(t *testing.T) {
	moved := 0
	for _, from := range versions() {
		for _, to := range versions() {
			for _, r := range records() {
				got, e := migrate.To(from, to, r)
				want, wantE := told(from, to, r)
				if e != wantE || !record.Same(got, want) {
					t.Errorf("To(%d, %d, %v) = %v %d, want %v %d", from, to, r, got, e, want, wantE)
				}
				if e == api.OK {
					moved++
				}
			}
		}
	}
	if moved < 50 {
		t.Errorf("only %d records were moved", moved)
	}
}

func TestStep(t *testing.T) {
	for _, version := range versions() {
		for _, r := range records() {
			want, wantE := api.Record{}, api.ErrVersion
			if version == 1 || version == 2 {
				want, wantE = told(version, version+1, r)
			}
			if got, e := migrate.Step(version, r); e != wantE || !record.Same(got, want) {
				t.Errorf("Step(%d, %v) = %v %d, want %v %d", version, r, got, e, want, wantE)
			}
		}
	}
}

func TestAll(t *testing.T) {
	bad := but(plain(), func(r *api.Record) { r.Target = "" })
	tagged := but(plain(), func(r *api.Record) { r.Tag = "t" })
	lists := [][]api.Record{nil, {}, {plain()}, {plain(), plain()}, {gone("a"), plain(), gone("b"), plain(), gone("a")}, {tagged}, {plain(), tagged}, {bad}, {bad, plain()}, {plain(), bad}, {plain(), bad, gone("a")}, records()}
	for _, from := range versions() {
		for _, to := range versions() {
			for i, l := range lists {
				want, wantE := []api.Record{}, api.OK
				if _, e := told(from, to, plain()); e == api.ErrVersion {
					wantE = e
				}
				for _, r := range l {
					one, e := told(from, to, r)
					if e != api.OK {
						wantE = e
					}
					want = append(want, one)
				}
				if wantE != api.OK {
					want = nil
				}
				if got, e := migrate.All(from, to, l); e != wantE || !slices.EqualFunc(got, want, record.Same) {
					t.Errorf("%d: All(%d, %d) = %v %d, want %v %d", i, from, to, got, e, want, wantE)
				}
			}
		}
	}
}

// TestBySteps: what is moved may be where it comes to; two moves, one behind the other, are one, and so are steps.
func TestBySteps(t *testing.T) {
	moved := 0
	for _, r := range records() {
		for from := 1; from <= 3; from++ {
			for to := from; to <= 3; to++ {
				whole, e := migrate.To(from, to, r)
				if e != api.OK {
					continue
				}
				moved++
				if !record.May(to, whole) {
					t.Errorf("To(%d, %d, %v) = %v, which may not be there", from, to, r, whole)
				}
				for between := from; between <= to; between++ {
					half, e := migrate.To(from, between, r)
					if e != api.OK {
						t.Errorf("To(%d, %d, %v) = %d", from, between, r, e)
					}
					if two, e := migrate.To(between, to, half); e != api.OK || !record.Same(two, whole) {
						t.Errorf("of %v by %d %d %d: %v %d, at once %v", r, from, between, to, two, e, whole)
					}
				}
				one := r
				for version := from; version < to; version++ {
					one, e = migrate.Step(version, one)
					if e != api.OK {
						t.Errorf("Step(%d) = %d", version, e)
					}
				}
				if !record.Same(one, whole) {
					t.Errorf("of %v by steps from %d to %d: %v, at once %v", r, from, to, one, whole)
				}
			}
		}
	}
	if moved < 50 {
		t.Errorf("only %d records were moved", moved)
	}
}

// TestNothingIsShared: what is handed in isn't changed, what is answered is new memory.
func TestNothingIsShared(t *testing.T) {
	for from := 1; from <= 3; from++ {
		for to := from; to <= 3; to++ {
			for _, r := range []api.Record{plain(), but(plain(), func(r *api.Record) { r.Deps = r.Deps[:1] }), but(plain(), func(r *api.Record) { r.Deps = r.Deps[:0] })} {
				room := r.Deps[:2]
				kept, keptRoom := record.Clone(r), slices.Clone(room)
				got, _ := migrate.To(from, to, r)
				all, _ := migrate.All(from, to, []api.Record{r, r})
				want, _ := told(from, to, kept)
				for _, one := range []api.Record{got, all[0], all[1]} {
					clear(one.Deps)
					_ = append(one.Deps, api.Dep{Name: "behind"})
					if !record.Same(r, kept) || !slices.Equal(room, keptRoom) {
						t.Fatalf("%d %d: whoever wrote into what was moved changed %v to %v", from, to, kept, r)
					}
				}
				got, _ = migrate.To(from, to, r)
				l := []api.Record{r, r}
				all, _ = migrate.All(from, to, l)
				clear(r.Deps)
				clear(l)
				clear(all[0].Deps)
				if !record.Same(got, want) || !record.Same(all[1], want) {
					t.Fatalf("%d %d: what was moved shares memory: %v %v, want %v", from, to, got, all[1], want)
				}
			}
			step, e := migrate.Step(from, plain())
			if e == api.OK {
				given := plain()
				step, _ = migrate.Step(from, given)
				clear(step.Deps)
				if !record.Same(given, plain()) {
					t.Fatalf("Step(%d) shares memory", from)
				}
			}
		}
	}
}
