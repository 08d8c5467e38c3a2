package script_test

import (
	"strconv"
	"strings"
	"testing"

	"tephra/api"
	"tephra/digest"
	"tephra/dump"
	"tephra/script"
)

const (
	huge    = "18446744073709551615"
	great   = "9223372036854775807"
	above   = "9223372036854775808"
	tooHuge = "18446744073709551616"
	zeros   = "0000000000000000"
)

// hex: the digits of what is run of a rule with contents.
func hex(rule uint64, contents ...uint64) string {
	return digest.Hex(digest.Fold(rule, contents...))
}

// talk runs lines, each followed by what it answers, without the last line feed; an empty answer has no line.
func talk(t *testing.T, what string, pairs ...string) {
	t.Helper()
	text, want := "", ""
	for i := 0; i < len(pairs); i += 2 {
		text += pairs[i] + "\n"
		if pairs[i+1] != "" {
			want += pairs[i+1] + "\n"
		}
	}
	if got := script.Run(text); got != want {
		t.Errorf("%s:\n%s\nanswers\n%s\nwant\n%s", what, text, got, want)
	}
}

func TestOfTheChapter(t *testing.T) {
	b := hex(1, 0)
	talk(t, "the chapter",
		"open 2", "ok", "source a", "ok", "node b 1 a", "ok",
		"build 5 1", "source a "+zeros+"\nran b "+b,
		"build 6 1", "source a "+zeros+"\nkept b "+b)
}

// TestWhole: what is answered to a script as a whole.
func TestWhole(t *testing.T) {
	line := strings.Repeat("x", 163) + "\n"
	for what, x := range map[string]struct{ text, want string }{
		"nothing":                     {"", ""},
		"an empty line":               {"\n", "error\n"},
		"empty lines":                 {"\n\n\n", "error\nerror\nerror\n"},
		"without a line feed":         {"open 1", "ok\n"},
		"with one":                    {"open 1\n", "ok\n"},
		"and an empty line behind":    {"open 1\n\n", "ok\nerror\n"},
		"behind a line feed":          {"\nopen 1", "error\nok\n"},
		"another end of a line":       {"open 1\r\nopen 1", "error\nok\n"},
		"as long as may be":           {strings.Repeat("x", 65536), "error\n"},
		"longer":                      {strings.Repeat("x", 65537), "long\n"},
		"as many lines as may be":     {strings.Repeat("clear\n", 400), strings.Repeat("ok\n", 400)},
		"one of them without its end": {strings.Repeat("clear\n", 399) + "clear", strings.Repeat("ok\n", 400)},
		"one more":                    {strings.Repeat("clear\n", 400) + "x", "lines\n"},
		"one more, empty":             {strings.Repeat("\n", 401), "lines\n"},
		"as many, as long":            {strings.Repeat(line, 399) + line[:99], strings.Repeat("error\n", 400)},
		"longer, and too many":        {strings.Repeat("\n", 65537), "long\n"},
		"too many, not too long":      {strings.Repeat("\n", 65536), "lines\n"},
		"any bytes":                   {"\x00\xff\n\\\n ", "error\nerror\nerror\n"},
	} {
		if got := script.Run(x.text); got != x.want {
			t.Errorf("%s: %.100q, want %.100q", what, got, x.want)
		}
	}
}

// TestBuild: nodes, what is given, and what is answered of steps.
func TestBuild(t *testing.T) {
	b, c := digest.Fold(1, 5), digest.Fold(0, digest.Fold(1, 5), 5)
	hexB, hexC := digest.Hex(b), digest.Hex(c)
	talk(t, "build",
		"node \\2d 0 b a", "ok", "source a", "ok", "node b 1 a", "ok", "give a 4", "ok", "give a 5", "ok", "open 3", "ok",
		"why a", "0", "why b", "1", "why \\2d", "1", "why x", "fail 6", "why -", "fail 6",
		"build "+huge+" 16", "source a 0000000000000005\nran b "+hexB+"\nran \\2d "+hexC,
		"find \\2d", "\\2d "+zeros+" "+digest.Hex(digest.Of(c))+" "+huge+" - b "+digest.Hex(digest.Of(b))+" a "+digest.Hex(digest.Of(5)),
		"build 0 1", "source a 0000000000000005\nkept b "+hexB+"\nkept \\2d "+hexC,
		"records", "2 3", "give a 6", "ok", "why b", "4", "why \\2d", "4", "why a", "0",
		"clear", "ok", "build 1 1", "", "why a", "fail 6",
		"node b 1", "ok", "why b", "3", "build 7 3", "ran b "+hex(1), "records", "3 3",
		"clear", "ok", "node b 2", "ok", "why b", "2",
		"build 1 0", "fail 1", "build 1 17", "fail 1", "build 1 "+great, "fail 1", "records", "3 3")
	talk(t, "what may not be",
		"open 1", "ok", "source a", "ok", "node b 1 a c", "ok", "build 1 1", "fail 6", "why a", "fail 6",
		"node c 1 b", "ok", "build 1 1", "fail 9", "why a", "fail 9",
		"clear", "ok", "source -", "ok", "build 1 1", "fail 1", "why -", "fail 1",
		"clear", "ok", "node a 1 "+strings.Repeat("b ", 20)+"b", "ok", "build 1 1", "fail 1",
		"clear", "ok", "node a "+huge+" b c d e f g h i j k l m n o p q r", "ok", "build 1 1", "fail 5",
		"records", "0 1", "files", "log 8 8")
}

// TestNodes: no more than 64 of them.
func TestNodes(t *testing.T) {
	var pairs []string
	for i := range 64 {
		pairs = append(pairs, "source n"+strconv.Itoa(i), "ok")
	}
	pairs = append(pairs, "source x", "error", "node x 1", "error", "source n0", "error", "give n0 1", "ok", "open 1", "ok", "why n63", "0", "why x", "fail 6")
	pairs = append(pairs, "clear", "ok", "node x 1", "ok", "why x", "1", "why n63", "fail 6")
	talk(t, "nodes", pairs...)
}

// TestStore: what is put into a store, and asked of it.
func TestStore(t *testing.T) {
	line := "a\\20b 00000000000000ff 00000000000000ab 12 - - " + zeros + " x 0000000000000003!"
	plain := "b " + zeros + " 0000000000000001 0 -"
	old := "b " + zeros + " 0000000000000001 1 old"
	talk(t, "put and find",
		"open 3", "ok", "find b", "none", "put "+line, "error", "put "+plain, "ok", "find b", plain,
		"put "+strings.Replace(line, "- -", "- y", 1), "ok", "find a\\20b", strings.Replace(line, "- -", "- y", 1), "find a", "none", "find -", "none",
		"records", "2 3", "delete b", "ok", "find b", "none", "delete b", "fail 6", "delete -", "fail 1", "delete "+strings.Repeat("x", 65), "fail 1",
		"records", "3 3", "find "+strings.Repeat("x", 1000), "none")
	talk(t, "moved on",
		"open 1", "ok", "put "+plain, "ok", "find b", old, "put b "+zeros+" "+zeros+" 1 -", "fail 1", "put b "+zeros+" "+zeros+" 0 t", "fail 1",
		"upgrade 1", "ok", "records", "1 1", "upgrade 2", "ok", "records", "1 2", "find b", old,
		"put b "+zeros+" "+zeros+" 7 -", "ok", "find b", "b "+zeros+" "+zeros+" 7 old", "put b "+zeros+" "+zeros+" 1 t", "fail 1", "put b "+zeros+" "+zeros+" 1 - c "+zeros+"!", "fail 1",
		"upgrade 1", "fail 11", "upgrade 0", "fail 11", "upgrade 4", "fail 11", "upgrade "+great, "fail 11", "records", "2 2",
		"upgrade 3", "ok", "find b", "b "+zeros+" "+zeros+" 7 old", "put b "+zeros+" "+zeros+" 1 -", "ok", "find b", "b "+zeros+" "+zeros+" 1 -")
	talk(t, "tidy",
		"open 2", "ok", "tidy 0", "no", "put "+plain, "ok", "tidy 0", "no", "put "+plain, "ok", "put "+plain, "ok", "tidy 2", "no", "tidy "+great, "no", "records", "3 2",
		"tidy 1", "done", "records", "1 2", "tidy 0", "no", "delete b", "ok", "tidy 1", "done", "records", "0 2", "files", "log 8 8")
}

// TestDump: the text, told and loaded.
func TestDump(t *testing.T) {
	a := api.Record{Kind: api.Trace, Target: "a", When: 1, Tag: "old"}
	b := a
	b.Target = "b"
	none, _ := dump.Text(nil)
	one, _ := dump.Text([]api.Record{a})
	two, _ := dump.Text([]api.Record{a, b})
	put := " " + zeros + " " + zeros + " 0 -"
	lines := func(text string) string { return strings.TrimSuffix(text, "\n") }
	talk(t, "dump and load",
		"open 1", "ok", "load", "fail 3", "records", "0 1",
		"dump", lines(none), "put b"+put, "ok", "put a"+put, "ok", "dump", lines(two), "delete b", "ok", "records", "3 1",
		"load", "ok", "records", "2 3", "dump", lines(two),
		"delete b", "ok", "dump", lines(one), "delete a", "ok", "records", "4 3", "clear", "ok", "load", "ok", "records", "1 3", "dump", lines(one),
		"failing 1", "ok", "load", "fail 8", "records", "1 3", "open 1", "ok", "load", "ok",
		"falling 0", "ok", "load", "fail 7", "dump", lines(one), "load", "fail 7")
}

// TestFiles: what is asked of the file system, and crashes.
func TestFiles(t *testing.T) {
	put := "put b " + zeros + " " + zeros + " 0 -"
	// At the version 1 its frame has 1 byte of its length, 6 of it, and 4 of a sum.
	talk(t, "crash",
		"files", "", "crash", "ok", "crash 1 2 "+great, "ok", "files", "",
		"open 1", "ok", "files", "log 8 8", put, "ok", "files", "log 19 8", "commit", "ok", "files", "log 19 19",
		put, "ok", put, "ok", "files", "log 41 19", "crash 12", "ok", "files", "log 31 31", "records", "3 1", "open 1", "ok", "records", "2 1",
		put, "ok", "crash 5 0", "ok", "files", "log 35 35", "open 1", "ok", "files", "log 30 30", "records", "2 1",
		put, "ok", "crash", "ok", "files", "log 30 30",
		"open 2", "ok", put, "ok", "crash 0 "+great, "ok", "open 2", "ok", "records", "2 1")
	talk(t, "failing",
		"failing 1", "ok", "open 1", "fail 8", "files", "new 8 0", "open 1", "ok", "files", "log 8 8",
		"failing 0", "ok", put, "fail 8", "records", "0 1", put, "ok",
		"failing "+great, "ok", put, "ok", "records", "2 1",
		"failing 0", "ok", "tidy 0", "fail 8", "failing 0", "ok", "upgrade 2", "fail 8", "failing 0", "ok", "delete b", "fail 8", "failing 0", "ok", "commit", "fail 8",
		"source a", "ok", "node c 1 a", "ok", "failing 1", "ok", "build 1 1", "fail 8", "records", "3 1", "files", "log 62 8",
		"failing 0", "ok", "build 1 1", "source a "+zeros+"\nkept c "+hex(1, 0), "commit", "fail 8")
	talk(t, "falling",
		"falling 0", "ok", "open 1", "fail 7", "records", "error", "files", "new 8 0", "open 1", "fail 7", "crash 4", "ok", "files", "new 4 4", "open 1", "ok", "files", "log 8 8",
		"falling 1", "ok", put, "ok", "commit", "fail 7", "records", "1 1", "find b", "b "+zeros+" "+zeros+" 1 old",
		put, "fail 7", "delete x", "fail 7", "commit", "fail 7", "upgrade 9", "fail 7", "tidy 0", "no", "build 1 1", "fail 7", "why a", "fail 7", "open 9", "fail 11", "open 1", "fail 7",
		"records", "1 1", "crash", "ok", put, "fail 7", "records", "1 1", "open 0", "fail 11", put, "fail 7", "open 1", "ok", "records", "0 1")
}

// TestOpen: a base that is refused leaves the one that there was.
func TestOpen(t *testing.T) {
	put := "put b " + zeros + " " + zeros + " 0 -"
	talk(t, "open",
		"open 0", "fail 11", "open 4", "fail 11", "open "+great, "fail 11", "records", "error", "files", "",
		"open 3", "ok", put, "ok", "records", "1 3", "open 4", "fail 11", "records", "1 3", put, "ok", "open 1", "ok", "records", "2 3")
}

// wrongLines: lines that are none, whatever there is.
func wrongLines() []string {
	l := []string{
		"", " ", "x", "Open 1", "OPEN 1", "opens 1", " open 1", "open  1", "open 1 ", "open\t1", "records ", "-", "error", "\\6fpen 1",
		"put", "put ", "put a", "put a " + zeros + " " + zeros + " 0", "put  a " + zeros + " " + zeros + " 0 -", "put a " + zeros + " " + zeros + " 0 - ", "put a " + zeros + " " + zeros + " 00 -",
		"put a " + zeros + " " + zeros + " " + tooHuge + " -", "put a 0 " + zeros + " 0 -", "put a " + zeros + " " + zeros[1:] + " 0 -", "put a " + zeros + " " + zeros + " 0 - b", "put a " + zeros + " " + zeros + " 0 - b 0",
		"put a " + zeros + " " + zeros + " 0 - a " + zeros, "put a " + zeros + " " + zeros + " 0 - b " + zeros + " b " + zeros, "put a " + zeros + " " + zeros + " 0 - b " + zeros + "!!", "put - " + zeros + " " + zeros + " 0 -",
		"put " + strings.Repeat("x", 65) + " " + zeros + " " + zeros + " 0 -", "put a " + zeros + " " + zeros + " 0 " + strings.Repeat("x", 65), "put a 000000000000000A " + zeros + " 0 -",
		"put a " + zeros + " " + zeros + " 0 -" + strings.Repeat(" b "+zeros, 17), "a " + zeros + " " + zeros + " 0 -", "put \\61 " + zeros + " " + zeros + " 0 -",
		"node", "node a", "give", "give a", "give a 1 2", "build", "build 1", "build 1 1 1", "node a ", "node a  b", "node a 1 ", "node a 1 b  c", "node a 1 b\\",
	}
	for _, word := range []string{"source", "why", "find", "delete", "open", "tidy", "upgrade", "failing", "falling"} {
		l = append(l, word, word+" ", word+" 1 1", word+" 1 ", word+"  1")
	}
	for _, word := range []string{"clear", "commit", "dump", "load", "records", "files"} {
		l = append(l, word+" ", word+" 1", word+" x", word+"s", word[1:])
	}
	// No words of texts.
	for _, word := range []string{"", "\\", "\\6", "\\61", "\\2D", "\xff", "a\\", "a\tb", "\\5C", "\\2d-"} {
		l = append(l, "source "+word, "node "+word+" 1", "node a 1 "+word, "node a 1 b "+word+" c", "give "+word+" 1", "why "+word, "find "+word, "delete "+word, "put "+word+" "+zeros+" "+zeros+" 0 -", "put a "+zeros+" "+zeros+" 0 "+word, "put a "+zeros+" "+zeros+" 0 - "+word+" "+zeros)
	}
	// No numbers.
	for _, word := range []string{"", "-", "-1", "+1", "01", "00", "1.", "1e1", "0x1", "1_0", "\\31", "x", "\u0661", tooHuge, "99999999999999999999999", "1\x00"} {
		l = append(l, "open "+word, "node a "+word, "node a "+word+" b", "give a "+word, "build "+word+" 1", "build 1 "+word, "tidy "+word, "upgrade "+word, "failing "+word, "falling "+word, "crash "+word, "crash 1 "+word, "crash "+word+" 1", "put a "+zeros+" "+zeros+" "+word+" -")
	}
	// Too great where it is said.
	for _, word := range []string{above, huge} {
		l = append(l, "open "+word, "build 1 "+word, "tidy "+word, "upgrade "+word, "failing "+word, "falling "+word, "crash "+word, "crash 1 "+word)
	}
	return l
}

// TestWrongLines: each answers error, with and without a base.
func TestWrongLines(t *testing.T) {
	for _, line := range wrongLines() {
		talk(t, "a wrong line", line, "error", "open 3", "ok", line, "error", "records", "0 3", "why a", "fail 6", "files", "log 8 8")
	}
	for _, line := range []string{"build 1 1", "why a", "put a " + zeros + " " + zeros + " 0 -", "find a", "delete a", "commit", "tidy 1", "upgrade 1", "dump", "load", "records"} {
		talk(t, "without a base", line, "error", "source a", "ok", "open 0", "fail 11", line, "error", "files", "")
	}
	// As great as may be, and other words that are as said.
	talk(t, "right words", "node a "+huge+" a a -", "ok", "give - "+huge, "ok", "crash "+great+" 0 "+great, "ok", "failing "+great, "ok", "falling "+great, "ok", "open 2", "ok", "tidy "+great, "no", "upgrade "+great, "fail 11", "build "+huge+" "+great, "fail 1", "source \\00\\ff", "ok", "node a 0", "ok")
}

// chance: numbers that look like chance.
func chance(seed uint64) func(n int) int {
	x := seed
	return func(n int) int {
		x = x*6364136223846793005 + 1442695040888963407
		return int(x >> 33 % uint64(n))
	}
}

// rightLines: lines that may be, of few names.
func rightLines() []string {
	l := []string{"clear", "commit", "dump", "dump", "load", "records", "files", "open 1", "open 2", "open 3", "open 4", "crash", "crash 3", "crash 20 9", "crash 99 99", "put a " + zeros + " " + zeros + " 0 -", "put b 0000000000000001 " + zeros + " 3 -", "put c " + zeros + " " + zeros + " 0 t a " + zeros + "!"}
	for _, name := range []string{"a", "b", "c", "d", "-"} {
		l = append(l, "source "+name, "node "+name+" 1", "node "+name+" 1 a", "node "+name+" 2 b c", "give "+name+" 1", "give "+name+" 2", "why "+name, "find "+name, "delete "+name)
	}
	for _, n := range []string{"0", "1", "2", "3", "4"} {
		l = append(l, "build 7 "+n, "build "+n+" 2", "build "+n+" 3", "build "+n+" 16", "tidy "+n, "upgrade "+n, "failing "+n, "falling "+n)
	}
	return l
}

// someLines: a script of lines that may be.
func someLines(pick func(int) int) []string {
	known := rightLines()
	l := []string{"open " + strconv.Itoa(1+pick(3))}
	for range pick(60) {
		switch pick(8) {
		case 0:
			l = append(l, "clear", "source a", "node b 1 a", "node c 2 b a", "build 5 "+strconv.Itoa(1+pick(16)))
		case 1:
			l = append(l, "crash "+strconv.Itoa(pick(99)), "open 1")
		case 2:
			l = append(l, "clear", "source a", []string{"node b 1", "node b 1 a", "node b 2 a", "node b 2"}[pick(4)], "why b", "build 6 1")
		default:
			l = append(l, known[pick(len(known))])
		}
	}
	return l
}

// answersOf: what each line of a script answers, told by its first lines alone.
func answersOf(t *testing.T, l []string) []string {
	t.Helper()
	var answers []string
	before := ""
	for i := range l {
		after := script.Run(strings.Join(l[:i+1], "\n"))
		if !strings.HasPrefix(after, before) {
			t.Fatalf("line %d has changed what those ahead answer: %q, and %q: %q", i, before, after, l)
		}
		answers = append(answers, after[len(before):])
		before = after
	}
	return answers
}

// TestLineByLine: what a line answers doesn't hang on the lines behind it; and lines that are none change nothing.
func TestLineByLine(t *testing.T) {
	pick := chance(1)
	wrong := wrongLines()
	seen := map[string]int{}
	for range 250 {
		l := someLines(pick)
		answers := answersOf(t, l)
		for _, a := range answers {
			if a != "" && !strings.HasSuffix(a, "\n") {
				t.Fatalf("%q doesn't end", a)
			}
			for _, line := range strings.Split(a, "\n") {
				seen[strings.Split(line, " ")[0]]++
			}
		}
		all := script.Run(strings.Join(l, "\n") + "\n")
		if want := strings.Join(answers, ""); all != want {
			t.Fatalf("%q, want %q", all, want)
		}
		var more, want []string
		for i, line := range l {
			if pick(2) == 0 && len(more) < 300 {
				more, want = append(more, wrong[pick(len(wrong))]), append(want, "error\n")
			}
			more, want = append(more, line), append(want, answers[i])
		}
		if got := script.Run(strings.Join(more, "\n")); got != strings.Join(want, "") {
			t.Fatalf("with lines that are none: %q, want %q: %q", got, want, more)
		}
	}
	for _, word := range []string{"ok", "fail", "none", "no", "done", "source", "ran", "kept", "tephra", "log", "0", "1", "2", "3", "4"} {
		if seen[word] == 0 {
			t.Errorf("%q was never answered", word)
		}
	}
}

// TestAnyBytes: whatever the script is, it is answered, always alike.
func TestAnyBytes(t *testing.T) {
	pick := chance(2)
	signs := []byte("open 12\n\n  -\\ab\x00\xffsource")
	for range 3000 {
		l := someLines(pick)
		text := []byte(strings.Join(l[:min(len(l), 12)], "\n"))
		for range pick(6) {
			text[pick(len(text))] = signs[pick(len(signs))]
		}
		answer := script.Run(string(text))
		if again := script.Run(string(text)); again != answer {
			t.Fatalf("%q, and %q: %q", answer, again, text)
		}
		if answer != "" && !strings.HasSuffix(answer, "\n") {
			t.Fatalf("%q: %q", answer, text)
		}
	}
}
