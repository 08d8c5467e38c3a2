package load

import (
	"strconv"
	"strings"

	"tephra/api"
	"tephra/digest"
	"tephra/dump"
	"tephra/escape"
)

const (
	// orderSign stands behind the digits of a dep that is Order.
	orderSign = "!"
	// headWords: Target's, Rule, Out, When, and Tag's; behind them stand two of each dep.
	headWords = 5
	depWords  = 2
)

// refused is thrown where a word isn't as said.
type refused struct {
	answer api.Errno
}

// must throws, unless it is as said.
func must(asSaid bool) {
	if !asSaid {
		panic(refused{api.ErrForm})
	}
}

// trace is the one whose line this is; it throws, if it is none's.
func trace(line string) api.Record {
	words := escape.Words(line)
	must(len(words) >= headWords)
	r := api.Record{
		Kind:   api.Trace,
		Target: text(words[0]),
		Rule:   hash(words[1]),
		Out:    hash(words[2]),
		When:   number(words[3]),
		Tag:    text(words[4]),
	}
	for words = words[headWords:]; len(words) > 0; words = words[depWords:] {
		must(len(words) >= depWords)
		r.Deps = append(r.Deps, dep(words[0], words[1]))
	}
	// Whatever was read of it: a trace has one line alone.
	again, e := dump.Line(r)
	must(e == api.OK && again == line)
	return r
}

// text is the one whose word this is.
func text(word string) string {
	s, ok := escape.Get(word)
	must(ok)
	return s
}

// hash is the number of 16 digits.
func hash(word string) uint64 {
	h, ok := digest.Read(word)
	must(ok)
	return h
}

// number is the one of decimal digits.
func number(word string) uint64 {
	n, err := strconv.ParseUint(word, 10, 64)
	must(err == nil)
	return n
}

// dep is the one of two words.
func dep(name, word string) api.Dep {
	digits, order := strings.CutSuffix(word, orderSign)
	return api.Dep{Name: text(name), Hash: hash(digits), Order: order}
}
