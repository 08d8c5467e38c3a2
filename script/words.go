package script

import (
	"math"
	"strconv"

	"tephra/api"
	"tephra/digest"
	"tephra/escape"
)

// text is the one whose word this is.
func text(word string) string {
	s, ok := escape.Get(word)
	must(ok)
	return s
}

// texts are those whose words these are.
func texts(words []string) []string {
	var l []string
	for _, word := range words {
		l = append(l, text(word))
	}
	return l
}

// number is the one of decimal digits.
func number(word string) uint64 {
	n, err := strconv.ParseUint(word, 10, 64)
	// A number has one word alone: what else is read as one is refused.
	must(err == nil && strconv.FormatUint(n, 10) == word)
	return n
}

// count is a number up to 2^63 - 1.
func count(word string) int {
	n := number(word)
	must(n <= math.MaxInt64)
	return int(n)
}

// counts are such numbers.
func counts(words []string) []int {
	var l []int
	for _, word := range words {
		l = append(l, count(word))
	}
	return l
}

// told is a line of these words.
func told(words ...string) string {
	return escape.Join(words...) + lineEnd
}

// toldError is the line that tells of an error, or that there is none.
func toldError(e api.Errno) string {
	if e == api.OK {
		return told("ok")
	}
	return told("fail", strconv.Itoa(int(e)))
}

// toldStep is the line that tells of a step, by the word of what was done.
func toldStep(done string, step api.Step) string {
	return told(done, escape.Put(step.Name), digest.Hex(step.Contents))
}
