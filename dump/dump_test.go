package dump_test

import (
	"fmt"
	"hash/crc32"
	"math"
	"slices"
	"strconv"
	"strings"
	"testing"

	"tephra/api"
	"tephra/dump"
	"tephra/fold"
	"tephra/record"
)

// full: a trace that has all of it.
func full() api.Record {
	return api.Record{
		Kind: api.Trace, Target: "a b", Rule: 0x123456789abcdef0, Out: math.MaxUint64, When: math.MaxUint64, Tag: "-",
		Deps: []api.Dep{{Name: "\\", Hash: 1, Order: true}, {Name: "c", Hash: 0xfedcba9876543210}},
	}
}

// but: a record of which something is another.
func but(r api.Record, change func(r *api.Record)) api.Record {
	r = record.Clone(r)
	change(&r)
	return r
}

// wordOf: a text's word in the words of layer 18.
func wordOf(s string) string {
	if s == "" {
		return "-"
	}
	w := ""
	for i := range len(s) {
		if s == "-" || s[i] < 33 || s[i] > 126 || s[i] == '\\' {
			w += fmt.Sprintf(`\%02x`, s[i])
		} else {
			w += s[i : i+1]
		}
	}
	return w
}

// lineOf: a trace's line in the words of the chapter.
func lineOf(r api.Record) string {
	line := fmt.Sprintf("%s %016x %016x %d %s", wordOf(r.Target), r.Rule, r.Out, r.When, wordOf(r.Tag))
	for _, d := range r.Deps {
		line += fmt.Sprintf(" %s %016x", wordOf(d.Name), d.Hash)
		if d.Order {
			line += "!"
		}
	}
	return line
}

// sealedOf: a text with the line of its sum, in the words of the chapter.
func sealedOf(text string) string {
	return fmt.Sprintf("%ssum %08x\n", text, crc32.ChecksumIEEE([]byte(text)))
}

// textOf: a state's text in the words of the chapter.
func textOf(state []api.Record) string {
	text := fmt.Sprintf("tephra %d\n", len(state))
	for _, r := range state {
		text += lineOf(r) + "\n"
	}
	return sealedOf(text)
}

// wantText holds what Text answers against a text.
func wantText(t *testing.T, state []api.Record, want string) {
	t.Helper()
	if text, e := dump.Text(state); e != api.OK || text != want {
		t.Fatalf("Text(%v) = %q %d, want %q", state, text, e, want)
	}
}

// wantLine holds what Line answers against a line.
func wantLine(t *testing.T, r api.Record, want string) {
	t.Helper()
	if line, e := dump.Line(r); e != api.OK || line != want {
		t.Fatalf("Line(%v) = %q %d, want %q", r, line, e, want)
	}
}

func TestOfTheChapter(t *testing.T) {
	wantText(t, nil, "tephra 0\nsum dcd4cf70\n")
	wantText(t, []api.Record{}, sealedOf("tephra 0\n"))
}

func TestLine(t *testing.T) {
	plain := api.Record{Kind: api.Trace, Target: "a"}
	wantLine(t, plain, "a 0000000000000000 0000000000000000 0 -")
	wantLine(t, full(), `a\20b 123456789abcdef0 ffffffffffffffff 18446744073709551615 \2d \5c 0000000000000001! c fedcba9876543210`)
	for _, x := range []struct {
		change func(r *api.Record)
		want   string
	}{
		{func(r *api.Record) { r.Target = "-" }, `\2d 0000000000000000 0000000000000000 0 -`},
		{func(r *api.Record) { r.Target = "\xff\n" }, `\ff\0a 0000000000000000 0000000000000000 0 -`},
		{func(r *api.Record) { r.Rule = 1 }, "a 0000000000000001 0000000000000000 0 -"},
		{func(r *api.Record) { r.Out = 0xa << 60 }, "a 0000000000000000 a000000000000000 0 -"},
		{func(r *api.Record) { r.When = 10 }, "a 0000000000000000 0000000000000000 10 -"},
		{func(r *api.Record) { r.Tag = "sum" }, "a 0000000000000000 0000000000000000 0 sum"},
		{func(r *api.Record) { r.Tag = " " }, `a 0000000000000000 0000000000000000 0 \20`},
		{func(r *api.Record) { r.Deps = []api.Dep{{Name: "z"}, {Name: "b", Order: true}} }, "a 0000000000000000 0000000000000000 0 - z 0000000000000000 b 0000000000000000!"},
	} {
		wantLine(t, but(plain, x.change), x.want)
	}
}

// many: a trace with as many deps, and as long texts, as there may be.
func many() api.Record {
	r := api.Record{Kind: api.Trace, Target: strings.Repeat("\x00", 64), Tag: strings.Repeat(" ", 64), Rule: math.MaxUint64, Out: math.MaxUint64, When: math.MaxUint64}
	for i := range 16 {
		r.Deps = append(r.Deps, api.Dep{Name: strings.Repeat("\xff", 63) + string([]byte{byte(i)}), Hash: math.MaxUint64 - uint64(i), Order: i%3 == 0})
	}
	return r
}

// never: records that aren't traces that may be at the version 3.
func never() []api.Record {
	long := strings.Repeat("x", 65)
	return []api.Record{
		{},
		{Kind: api.Gone, Target: "a"},
		{Kind: 3, Target: "a"},
		{Kind: -1, Target: "a"},
		{Kind: api.Trace},
		{Kind: api.Trace, Target: long},
		{Kind: api.Trace, Target: "a", Tag: long},
		{Kind: api.Trace, Target: "a", Deps: []api.Dep{{Name: "a"}}},
		{Kind: api.Trace, Target: "a", Deps: []api.Dep{{}}},
		{Kind: api.Trace, Target: "a", Deps: []api.Dep{{Name: long}}},
		{Kind: api.Trace, Target: "a", Deps: []api.Dep{{Name: "b", Hash: 1}, {Name: "b"}}},
		but(many(), func(r *api.Record) { r.Deps = append(r.Deps, api.Dep{Name: "more"}) }),
	}
}

func TestRefused(t *testing.T) {
	a, z := api.Record{Kind: api.Trace, Target: "\x00"}, api.Record{Kind: api.Trace, Target: strings.Repeat("z", 64)}
	for _, r := range never() {
		if line, e := dump.Line(r); line != "" || e != api.ErrArg {
			t.Errorf("Line(%v) = %q %d", r, line, e)
		}
		for _, l := range [][]api.Record{{r}, {a, r}, {r, z}, {a, r, z}} {
			if text, e := dump.Text(l); text != "" || e != api.ErrArg {
				t.Errorf("Text(%v) = %q %d", l, text, e)
			}
		}
	}
	for _, l := range [][]api.Record{{z, a}, {a, a}, {a, but(a, func(r *api.Record) { r.Out = 1 })}, {a, z, a}, {a, {Kind: api.Gone, Target: "b"}}} {
		if text, e := dump.Text(l); text != "" || e != api.ErrArg {
			t.Errorf("Text(%v) = %q %d", l, text, e)
		}
	}
}

func TestText(t *testing.T) {
	wantText(t, []api.Record{{Kind: api.Trace, Target: "a"}}, sealedOf("tephra 1\na 0000000000000000 0000000000000000 0 -\n"))
	state := []api.Record{many(), {Kind: api.Trace, Target: "-"}, {Kind: api.Trace, Target: "a"}, full(), {Kind: api.Trace, Target: "b", Tag: "sum"}}
	for size := range len(state) + 1 {
		wantText(t, state[:size], textOf(state[:size]))
		for _, r := range state[:size] {
			wantLine(t, r, lineOf(r))
		}
	}
	state = nil
	for i := range 1000 {
		state = append(state, api.Record{Kind: api.Trace, Target: fmt.Sprintf("t%04d", i), Out: uint64(i)})
	}
	wantText(t, state, textOf(state))
	if text, _ := dump.Text(state); !strings.HasPrefix(text, "tephra 1000\n") || strings.Count(text, "\n") != 1002 {
		t.Errorf("of 1000 traces the text has %d lines", strings.Count(text, "\n"))
	}
}

func TestSealed(t *testing.T) {
	for text, want := range map[string]string{
		"":          "sum 00000000\n",
		"123456789": "123456789sum cbf43926\n",
		"\n":        "\nsum 32d70693\n",
	} {
		if got := dump.Sealed(text); got != want || got != sealedOf(text) {
			t.Errorf("Sealed(%q) = %q, want %q", text, got, want)
		}
	}
	small := 0
	for i := range 500 {
		text := strings.Repeat("\xff", i%7) + strconv.Itoa(i) + "\n"
		want := sealedOf(text)
		if strings.Contains(want, "sum 0") {
			small++
		}
		if got := dump.Sealed(text); got != want {
			t.Errorf("Sealed(%q) = %q, want %q", text, got, want)
		}
		if got := dump.Sealed(want); got != sealedOf(want) {
			t.Errorf("Sealed(%q) = %q, want %q", want, got, sealedOf(want))
		}
	}
	if small == 0 {
		t.Error("no sum began with a 0")
	}
}

// unlike: states no two of which are alike, many of them just by one thing.
func unlike() [][]api.Record {
	plain := api.Record{Kind: api.Trace, Target: "a"}
	one := []api.Record{plain}
	texts := []string{"b", "-", "--", " ", "b ", `\`, `\20`, `\2d`, "\x00", "\n", "0", "0000000000000000", "0000000000000000!", "sum"}
	for _, s := range texts {
		one = append(one, but(plain, func(r *api.Record) { r.Target = s }))
		one = append(one, but(plain, func(r *api.Record) { r.Tag = s }))
		for _, other := range texts {
			one = append(one, but(plain, func(r *api.Record) { r.Tag, r.Deps = other, []api.Dep{{Name: s}} }))
			if other != s {
				one = append(one, but(plain, func(r *api.Record) { r.Deps = []api.Dep{{Name: s}, {Name: other}} }))
			}
		}
		one = append(one, but(plain, func(r *api.Record) { r.Deps = []api.Dep{{Name: s, Order: true}} }))
		one = append(one, but(plain, func(r *api.Record) { r.Deps = []api.Dep{{Name: s}} }))
	}
	for _, n := range []uint64{1, 10, 16, 1 << 63, math.MaxUint64} {
		one = append(one, but(plain, func(r *api.Record) { r.Rule = n }))
		one = append(one, but(plain, func(r *api.Record) { r.Out = n }))
		one = append(one, but(plain, func(r *api.Record) { r.When = n }))
		one = append(one, but(plain, func(r *api.Record) { r.Deps = []api.Dep{{Name: "b", Hash: n}} }))
		one = append(one, but(plain, func(r *api.Record) { r.Deps = []api.Dep{{Name: "b", Hash: n, Order: true}} }))
	}
	all := [][]api.Record{nil}
	for _, r := range one {
		all = append(all, []api.Record{r})
	}
	for _, r := range one[:40] {
		for _, other := range one[:40] {
			if r.Target < other.Target {
				all = append(all, []api.Record{r, other})
			}
		}
	}
	return all
}

// TestOneTextEach: unlike states have unlike texts, and the same state the same one.
func TestOneTextEach(t *testing.T) {
	states := map[string][]api.Record{}
	for _, state := range unlike() {
		text, e := dump.Text(state)
		if e != api.OK || text != textOf(state) {
			t.Fatalf("Text(%v) = %q %d, want %q", state, text, e, textOf(state))
		}
		if other, there := states[text]; there && !fold.Same(state, other) {
			t.Fatalf("%q is the text of %v and of %v", text, state, other)
		}
		states[text] = state
		wantText(t, slices.Clone(state), text)
	}
	if len(states) < 500 {
		t.Fatalf("there are %d texts alone", len(states))
	}
}

// TestNothingIsShared: what is handed in isn't changed.
func TestNothingIsShared(t *testing.T) {
	state := []api.Record{many(), full()}
	text, _ := dump.Text(state)
	dump.Line(state[0])
	if !fold.Same(state, []api.Record{many(), full()}) {
		t.Errorf("what was handed in is %v", state)
	}
	clear(state[0].Deps)
	clear(state)
	if text != textOf([]api.Record{many(), full()}) {
		t.Errorf("the text is %q", text)
	}
	// A nil list is the same as an empty one.
	bare := api.Record{Kind: api.Trace, Target: "a", Deps: []api.Dep{}}
	wantLine(t, bare, lineOf(but(bare, func(r *api.Record) { r.Deps = nil })))
}
