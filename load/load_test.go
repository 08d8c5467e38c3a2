package load_test

import (
	"fmt"
	"hash/crc32"
	"math"
	"regexp"
	"slices"
	"strings"
	"testing"

	"tephra/api"
	"tephra/dump"
	"tephra/fold"
	"tephra/load"
	"tephra/record"
)

// full: a trace that has all of it.
func full() api.Record {
	return api.Record{
		Kind: api.Trace, Target: "a b", Rule: 0x123456789abcdef0, Out: math.MaxUint64, When: math.MaxUint64, Tag: "-",
		Deps: []api.Dep{{Name: "\\", Hash: 1, Order: true}, {Name: "c", Hash: 0xfedcba9876543210}},
	}
}

// many: a trace with as many deps, and as long texts, as there may be.
func many() api.Record {
	r := api.Record{Kind: api.Trace, Target: strings.Repeat("\x00", 64), Tag: strings.Repeat(" ", 64), Rule: math.MaxUint64, Out: math.MaxUint64, When: math.MaxUint64}
	for i := range 16 {
		r.Deps = append(r.Deps, api.Dep{Name: strings.Repeat("\xff", 63) + string([]byte{byte(i)}), Hash: math.MaxUint64 - uint64(i), Order: i%3 == 0})
	}
	return r
}

// states: some, rising in how many traces they have.
func states() [][]api.Record {
	all := []api.Record{many(), {Kind: api.Trace, Target: "-"}, {Kind: api.Trace, Target: "a"}, full(), {Kind: api.Trace, Target: "b", Tag: "sum", When: 1}, {Kind: api.Trace, Target: "tephra", Deps: []api.Dep{{Name: "b"}}}}
	l := [][]api.Record{}
	for size := range len(all) + 1 {
		l = append(l, all[:size])
	}
	return append(l, all[2:3], all[3:])
}

// textOf: a state's text.
func textOf(t *testing.T, state []api.Record) string {
	t.Helper()
	text, e := dump.Text(state)
	if e != api.OK {
		t.Fatalf("dump.Text(%v) = %d", state, e)
	}
	return text
}

// wantState holds what Text answers against a state.
func wantState(t *testing.T, text string, want []api.Record) {
	t.Helper()
	if state, e := load.Text(text); e != api.OK || !fold.Same(state, want) {
		t.Fatalf("Text(%q) = %v %d, want %v", text, state, e, want)
	}
}

// wantRefused holds what Text answers against an error.
func wantRefused(t *testing.T, text string, want api.Errno) {
	t.Helper()
	if state, e := load.Text(text); e != want || len(state) > 0 {
		t.Fatalf("Text(%q) = %v %d, want %d", text, state, e, want)
	}
}

// wantNoLine holds what Line answers of what is no trace's.
func wantNoLine(t *testing.T, line string) {
	t.Helper()
	if r, e := load.Line(line); e != api.ErrForm || !record.Same(r, api.Record{}) {
		t.Fatalf("Line(%q) = %v %d", line, r, e)
	}
}

func TestOfTheChapter(t *testing.T) {
	wantState(t, "tephra 0\nsum dcd4cf70\n", nil)
}

// TestThereAndBack: each state's text is read as that state, each trace's line as that trace.
func TestThereAndBack(t *testing.T) {
	for _, state := range states() {
		wantState(t, textOf(t, state), state)
		for _, r := range state {
			line, _ := dump.Line(r)
			if got, e := load.Line(line); e != api.OK || !record.Same(got, r) {
				t.Fatalf("Line(%q) = %v %d, want %v", line, got, e, r)
			}
		}
	}
}

// TestEveryByteOfNames: whichever bytes texts have, they come back.
func TestEveryByteOfNames(t *testing.T) {
	for c := range 256 {
		one := string([]byte{byte(c)})
		for _, s := range []string{one, one + one, "-" + one, one + " ", "\\" + one} {
			state := []api.Record{{Kind: api.Trace, Target: s, Tag: s, Deps: []api.Dep{{Name: s + "!", Order: true}, {Name: "\x00" + s}}}}
			wantState(t, textOf(t, state), state)
		}
	}
}

// zeros: the digits of the number 0.
const zeros = "0000000000000000"

// plain: a line of the words of a trace that has nothing but its Target, with some of these words anew, and others behind.
func plain(change func(words []string), more ...string) string {
	words := []string{"a", zeros, zeros, "0", "-"}
	change(words)
	return strings.Join(append(words, more...), " ")
}

// same leaves words as they are.
func same([]string) {}

func TestLineOfNone(t *testing.T) {
	if r, e := load.Line(plain(same)); e != api.OK || !record.Same(r, api.Record{Kind: api.Trace, Target: "a"}) {
		t.Fatalf("Line = %v %d", r, e)
	}
	wrong := map[int][]string{
		0: {"", "-", `\61`, `a\`, `\2D`, `\5C`, "a\n", "\u00e4", strings.Repeat("a", 65), strings.Repeat(`\20`, 65)},
		1: {"", "0", zeros[1:], zeros + "0", "000000000000000A", "000000000000000g", zeros + "!", "0x00000000000000", "-000000000000001", "+000000000000001"},
		3: {"", "00", "01", "-1", "+1", "0x1", "1_0", "1.0", "1e1", "18446744073709551616", "99999999999999999999", "x", "-", "\u0661"},
		4: {"", `\61`, `\`, `\2`, "--\x7f", strings.Repeat("t", 65)},
	}
	wrong[2] = wrong[1]
	for at, words := range wrong {
		for _, word := range words {
			wantNoLine(t, plain(func(l []string) { l[at] = word }))
		}
	}
	for _, more := range [][]string{
		{""}, {"b"}, {zeros}, {"b", ""}, {"b", "0"}, {"", zeros}, {"-", zeros}, {"b", zeros + "!!"}, {"b", "!" + zeros}, {"b", zeros, "!"}, {"b", zeros + " !"}, {"b", "!"}, {"b", zeros[1:] + "!"}, {`\62`, zeros},
		{"b", zeros, "c"}, {"b", zeros, "b", zeros}, {"b", zeros, "b", zeros + "!"}, {"a", zeros}, {strings.Repeat("b", 65), zeros}, {"b", strings.ToUpper("00000000000000aa")},
	} {
		wantNoLine(t, plain(same, more...))
	}
	for _, line := range []string{"", " ", "a", "    ", " " + plain(same), plain(same) + " ", plain(same) + "\n", "\n" + plain(same), plain(same) + "\r", strings.Replace(plain(same), " ", "  ", 1), strings.ReplaceAll(plain(same), " ", "\t"), "sum 00000000", "tephra 0", strings.Repeat(" ", 1000)} {
		wantNoLine(t, line)
	}
	words := strings.Split(plain(same), " ")
	for i := range words {
		wantNoLine(t, strings.Join(words[:i], " "))
		wantNoLine(t, strings.Join(words[i+1:], " "))
		wantNoLine(t, strings.Join(slices.Delete(slices.Clone(words), i, i+1), " "))
	}
	more := []string{}
	for i := range 17 {
		more = append(more, fmt.Sprint("n", i), zeros)
	}
	wantNoLine(t, plain(same, more...))
	if r, e := load.Line(plain(same, more[:32]...)); e != api.OK || len(r.Deps) != 16 {
		t.Fatalf("Line = %v %d", r, e)
	}
}

// sealedOf: a text with the line of its sum, in the words of layer 19.
func sealedOf(text string) string {
	return fmt.Sprintf("%ssum %08x\n", text, crc32.ChecksumIEEE([]byte(text)))
}

// TestTextRefused: which error is told first.
func TestTextRefused(t *testing.T) {
	line := plain(same)
	good := sealedOf("tephra 1\n" + line + "\n")
	wantState(t, good, []api.Record{{Kind: api.Trace, Target: "a"}})
	body := good[:strings.Index(good, "sum")]
	sum := good[len(body):]
	// It doesn't end with a line feed, or its last line isn't that of a sum: whatever stands ahead of it.
	for _, text := range []string{
		"", "\n", "\n\n", "a", "sum", "sum ", "sum \n", "sum\n", good[:len(good)-1], good + "\n", good + " ", good + "\r\n", good + "a", body, body + "\n", body + "sum 1234567\n", body + "sum 123456789\n", body + "sum 1234567g\n", body + "sum 1234567A\n",
		body + strings.ToUpper(sum), body + " " + sum, body + "sum  1234567\n", body + "sum 12345678 \n", body + "sum\t12345678\n", body + "Sum 12345678\n", body + "sum12345678\n", body + "sum 12345678\r\n", "12345678\n", body + "12345678\n", body + "asum 12345678\n", body[:len(body)-1] + sum, body + "sum " + zeros + "\n", body + "sum \n12345678\n",
	} {
		wantRefused(t, text, api.ErrForm)
	}
	// Its sum isn't that of all ahead: whatever that is.
	for _, text := range []string{body + "sum 12345678\n", "sum 00000001\n", "sum ffffffff\n", "\n" + good, "tephra 2\n" + line + "\n" + sum, sum, good + sum, "\xff\n" + sum, "\nsum 00000000\n", sealedOf("tephra 1\n" + line)} {
		want := api.ErrSum
		if text == sealedOf("tephra 1\n"+line) {
			want = api.ErrForm
		}
		wantRefused(t, text, want)
	}
	// Its sum is right, and yet it is no state's.
	other := plain(func(l []string) { l[0] = "b" })
	for _, body := range []string{
		"", "\n", "\n\n", "tephra\n", "tephra 0\n\n", "\ntephra 0\n", "tephra 1\n", "tephra 00\n", "tephra  0\n", " tephra 0\n", "tephra 0 \n", "tephra -0\n", "tephra 0x0\n", "Tephra 0\n", "0\n", "tephra 0\r\n", "a 0\n", "tephra\n0\n",
		line + "\n", "tephra 0\n" + line + "\n", "tephra 2\n" + line + "\n", "tephra 01\n" + line + "\n", "tephra 1\n\n" + line + "\n", "tephra 1\n" + line + "\n\n", line + "\ntephra 1\n", "tephra 18446744073709551617\n" + line + "\n",
		"tephra 2\n" + other + "\n" + line + "\n", "tephra 2\n" + line + "\n" + line + "\n", "tephra 2\n" + line + " " + other + "\n", "tephra 2\n" + line + "\n" + plain(func(l []string) { l[3] = "1" }) + "\n", "tephra 1\n" + line + " \n", "tephra 1\n" + plain(func(l []string) { l[3] = "01" }) + "\n",
		good, "tephra 1\n" + sealedOf("tephra 0\n"), sealedOf("tephra 0\n"), "tephra 1\nsum 12345678\n", "tephra 9223372036854775808\n",
	} {
		wantRefused(t, sealedOf(body), api.ErrForm)
	}
	wantState(t, sealedOf("tephra 2\n"+line+"\n"+other+"\n"), []api.Record{{Kind: api.Trace, Target: "a"}, {Kind: api.Trace, Target: "b"}})
}

// TestEveryByteTurned: of each text, with one byte anew, or left out.
func TestEveryByteTurned(t *testing.T) {
	sealed := regexp.MustCompile(`(?s)(^|\n)sum [0-9a-f]{8}\n$`)
	text := textOf(t, []api.Record{full()})
	for i := range text {
		changed := []string{text[:i] + text[i+1:], text[:i]}
		for c := range 256 {
			if byte(c) != text[i] {
				changed = append(changed, text[:i]+string([]byte{byte(c)})+text[i+1:])
			}
		}
		for _, one := range changed {
			if sealed.MatchString(one) {
				wantRefused(t, one, api.ErrSum)
			} else {
				wantRefused(t, one, api.ErrForm)
			}
		}
	}
}

// signs are those of a byte; what isn't told here of lines isLine tells.
const signs = `(?:[!-\[\]-~]|\\(?:[01][0-9a-f]|20|5c|7f|[89a-f][0-9a-f]))`

var lineForm = regexp.MustCompile(`^(` + signs + `+|\\2d) [0-9a-f]{16} [0-9a-f]{16} (0|[1-9][0-9]{0,19}) (` + signs + `+|\\2d)((?: (?:` + signs + `+|\\2d) [0-9a-f]{16}!?)*)$`)

// isLine tells whether a line is a trace's, in the words of the chapters.
func isLine(line string) bool {
	m := lineForm.FindStringSubmatch(line)
	if m == nil || m[1] == "-" || len(m[2]) == 20 && m[2] > "18446744073709551615" {
		return false
	}
	names := []string{m[1]}
	for i, word := range strings.Fields(m[4]) {
		if i%2 == 0 {
			names = append(names, word)
		}
	}
	slices.Sort(names)
	if len(names) > 17 || slices.Contains(names, "-") || len(slices.Compact(slices.Clone(names))) != len(names) {
		return false
	}
	for _, word := range append(names, m[3]) {
		// Each byte that isn't there by itself has three signs.
		if len(word)-2*strings.Count(word, `\`) > 64 {
			return false
		}
	}
	return true
}

// TestOneWay: lines in which something is anew, in ways that look like chance, are read just if they are a trace's, and as the trace whose they are; texts likewise.
func TestOneWay(t *testing.T) {
	x := uint64(7)
	pick := func(n int) int {
		x = x*6364136223846793005 + 1442695040888963407
		return int(x >> 33 % uint64(n))
	}
	parts := []string{" ", "-", `\`, "2", "d", "0", "a", "!", "\n", "\xff", `\20`, `\2d`, `\5c`, `\ff`, `\61`, "1", zeros, " b " + zeros, " c " + zeros + "!", "  "}
	counts := [2]int{}
	for range 60000 {
		r := full()
		if pick(2) == 0 {
			r = api.Record{Kind: api.Trace, Target: "a"}
		}
		line, _ := dump.Line(r)
		for range pick(3) {
			from := pick(len(line) + 1)
			to := min(len(line), from+pick(3)*pick(12))
			part := ""
			if pick(3) > 0 {
				part = parts[pick(len(parts))]
			}
			line = line[:from] + part + line[to:]
		}
		text := sealedOf("tephra 1\n" + line + "\n")
		if !isLine(line) {
			counts[0]++
			wantNoLine(t, line)
			wantRefused(t, text, api.ErrForm)
			continue
		}
		counts[1]++
		got, e := load.Line(line)
		if again, _ := dump.Line(got); e != api.OK || again != line {
			t.Fatalf("Line(%q) = %v %d, whose line is %q", line, got, e, again)
		}
		wantState(t, text, []api.Record{got})
	}
	if counts[0] < 10000 || counts[1] < 10000 {
		t.Fatalf("of both there were %v", counts)
	}
}

// TestNothingIsShared: what is answered is new memory, each list of it.
func TestNothingIsShared(t *testing.T) {
	state := []api.Record{many(), full()}
	text := textOf(t, state)
	got, _ := load.Text(text)
	clear(got[0].Deps)
	_ = append(got[0].Deps, api.Dep{Name: "behind"})
	if !record.Same(got[1], full()) {
		t.Errorf("two lists of an answer share memory: %v", got[1])
	}
	clear(got)
	wantState(t, text, state)
}
