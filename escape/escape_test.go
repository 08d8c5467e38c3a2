package escape_test

import (
	"fmt"
	"slices"
	"strings"
	"testing"

	"tephra/escape"
)

// wordOf: a text's word in the words of the chapter.
func wordOf(s string) string {
	switch s {
	case "":
		return "-"
	case "-":
		return `\2d`
	}
	w := ""
	for i := 0; i < len(s); i++ {
		if s[i] >= 33 && s[i] <= 126 && s[i] != 92 {
			w += string(rune(s[i]))
		} else {
			w += fmt.Sprintf(`\%02x`, s[i])
		}
	}
	return w
}

// wantText holds what Get answers of a word against a text.
func wantText(t *testing.T, w, want string) {
	t.Helper()
	if s, ok := escape.Get(w); !ok || s != want {
		t.Fatalf("Get(%q) = %q %v, want %q", w, s, ok, want)
	}
}

// wantNone holds what Get answers of what is no word.
func wantNone(t *testing.T, w string) {
	t.Helper()
	if s, ok := escape.Get(w); ok || s != "" {
		t.Fatalf("Get(%q) = %q %v", w, s, ok)
	}
}

func TestOfTheChapter(t *testing.T) {
	if w := escape.Put(`a \`); w != `a\20\5c` {
		t.Errorf("Put = %q", w)
	}
	wantText(t, `a\20\5c`, `a \`)
}

func TestPut(t *testing.T) {
	for s, want := range map[string]string{
		"":           "-",
		"-":          `\2d`,
		"--":         "--",
		"-a":         "-a",
		"a-":         "a-",
		" ":          `\20`,
		"- ":         `-\20`,
		"a":          "a",
		"!~":         "!~",
		"\x7f":       `\7f`,
		"\x00":       `\00`,
		"\xff\xfe":   `\ff\fe`,
		"\n\t":       `\0a\09`,
		`\`:          `\5c`,
		`\20`:        `\5c20`,
		`\2d`:        `\5c2d`,
		"\u00e4":     `\c3\a4`,
		"\u20ac":     `\e2\82\ac`,
		"\ufffd":     `\ef\bf\bd`,
		"a b":        `a\20b`,
		"[]^_`":      "[]^_`",
		"\"'#%&/,.;": "\"'#%&/,.;",
	} {
		if w := escape.Put(s); w != want {
			t.Errorf("Put(%q) = %q, want %q", s, w, want)
		}
		wantText(t, want, s)
	}
}

// TestEveryByte: alone, doubled, and ahead of and behind others.
func TestEveryByte(t *testing.T) {
	for c := range 256 {
		one := string([]byte{byte(c)})
		for _, s := range []string{one, one + one, "a" + one, one + "a", one + "-", "-" + one, one + " ", `\` + one} {
			if w := escape.Put(s); w != wordOf(s) {
				t.Fatalf("Put(%q) = %q, want %q", s, w, wordOf(s))
			}
			wantText(t, wordOf(s), s)
		}
		// A byte's three signs are a word where it doesn't stand for itself, and nowhere else.
		w := fmt.Sprintf(`\%02x`, c)
		alone := c < 33 || c > 126 || c == 92
		if alone || c == '-' {
			wantText(t, w, one)
		} else {
			wantNone(t, w)
		}
		if alone {
			wantText(t, "a"+w+"b", "a"+one+"b")
		} else {
			wantNone(t, "a"+w)
			wantNone(t, w+"a")
			wantNone(t, w+w)
		}
		if upper := strings.ToUpper(w); upper != w {
			wantNone(t, upper)
			wantNone(t, "a"+upper)
		}
		if alone {
			wantNone(t, one)
			wantNone(t, "a"+one)
			wantNone(t, one+"a")
		}
	}
}

func TestNoWords(t *testing.T) {
	for _, w := range []string{"", " ", "a b", "a ", " a", `\`, `a\`, `\2`, `\20\`, `\20\2`, `\\`, `\\\`, `\5`, `\g0`, `\0g`, `\/0`, `\:0`, "\\`0", `\ 20`, `\x20`, `\2D`, `\2d-`, `-\2d`, `\2d\2d`, `\41`, `\61`, `\21`, `\7e`, "\n", "a\n", "\x00", "\x7f", "\xff", "\u00e4", `\5C`, `\Ff`, `\+1`, `\-1`} {
		wantNone(t, w)
	}
}

// TestOneWay: of all short rows of a few signs those are words that Put makes of what Get answers, each of another text; none of them has a blank.
func TestOneWay(t *testing.T) {
	signs := []string{"-", `\`, "2", "0", "d", "5", "c", "a", " ", "\xff", "A"}
	rows := []string{""}
	for range 4 {
		longer := []string{}
		for _, row := range rows {
			for _, sign := range signs {
				longer = append(longer, row+sign)
			}
		}
		rows = append(rows, longer...)
	}
	words := map[string]string{}
	for _, row := range rows {
		w := escape.Put(row)
		if w != wordOf(row) || w == "" || strings.Contains(w, " ") {
			t.Fatalf("Put(%q) = %q", row, w)
		}
		wantText(t, w, row)
		if other, there := words[w]; there && other != row {
			t.Fatalf("%q is the word of %q and of %q", w, row, other)
		}
		words[w] = row
		if s, ok := escape.Get(row); ok && wordOf(s) != row {
			t.Fatalf("Get(%q) = %q, whose word is %q", row, s, wordOf(s))
		}
	}
	// Each row that is a word of a text among them is read as that.
	for w, s := range words {
		if slices.Contains(rows, w) {
			wantText(t, w, s)
		}
	}
}

// TestLongTexts: there and back, of bytes that look like chance.
func TestLongTexts(t *testing.T) {
	x := uint64(1)
	for size := range 300 {
		b := make([]byte, size)
		for i := range b {
			x = x*6364136223846793005 + 1442695040888963407
			b[i] = byte(x >> 33)
		}
		w := escape.Put(string(b))
		if w != wordOf(string(b)) {
			t.Fatalf("Put(%q) = %q", b, w)
		}
		wantText(t, w, string(b))
	}
	all := strings.Repeat("\x00", 1<<20)
	wantText(t, escape.Put(all), all)
}

func TestWords(t *testing.T) {
	for line, want := range map[string][]string{
		"":            {""},
		" ":           {"", ""},
		"  ":          {"", "", ""},
		"a":           {"a"},
		"a b":         {"a", "b"},
		"a  b":        {"a", "", "b"},
		" a b ":       {"", "a", "b", ""},
		"a\tb\nc d":   {"a\tb\nc", "d"},
		"\u00a0 \xff": {"\u00a0", "\xff"},
		`\20 -`:       {`\20`, "-"},
	} {
		if got := escape.Words(line); !slices.Equal(got, want) {
			t.Errorf("Words(%q) = %q, want %q", line, got, want)
		}
		if got := escape.Join(want...); got != line {
			t.Errorf("Join(%q) = %q, want %q", want, got, line)
		}
	}
}

func TestJoin(t *testing.T) {
	for _, x := range []struct {
		l    []string
		want string
	}{
		{nil, ""},
		{[]string{}, ""},
		{[]string{""}, ""},
		{[]string{"", ""}, " "},
		{[]string{"a b", "c"}, "a b c"},
		{[]string{"\xff", "", "\n"}, "\xff  \n"},
	} {
		if got := escape.Join(x.l...); got != x.want {
			t.Errorf("Join(%q) = %q, want %q", x.l, got, x.want)
		}
	}
	if got := escape.Join("a", "b", "c"); got != "a b c" {
		t.Errorf("Join = %q", got)
	}
}

// TestTextsThroughALine: texts go through a line as words, whatever they are.
func TestTextsThroughALine(t *testing.T) {
	texts := []string{"", "-", " ", "a b", `\`, "\n", "--", "\x00\xff"}
	words := []string{}
	for _, s := range texts {
		words = append(words, escape.Put(s))
	}
	for i, w := range escape.Words(escape.Join(words...)) {
		wantText(t, w, texts[i])
	}
}

// TestNothingIsShared: what is handed in isn't changed, and what is answered is new memory.
func TestNothingIsShared(t *testing.T) {
	l := append(make([]string, 0, 4), "a", "b")
	line := escape.Join(l...)
	clear(l)
	first := escape.Words(line)
	clear(first)
	if got := escape.Words(line); line != "a b" || !slices.Equal(got, []string{"a", "b"}) {
		t.Errorf("Words(%q) = %q", line, got)
	}
}
