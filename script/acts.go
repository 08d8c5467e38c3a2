package script

import (
	"math"
	"strconv"
	"strings"

	"tephra/api"
	"tephra/base"
	"tephra/build"
	"tephra/dump"
	"tephra/escape"
	"tephra/load"
	"tephra/migrate"
)

// newest is the version to which a trace is moved that is told.
const newest = 3

// anyMany is said where there may be as many words as one likes.
const anyMany = math.MaxInt

// act is what a first word does: how many words may stand behind it, whether it does without a base, and what it does with these words and answers. It throws, if one of them isn't as said.
type act struct {
	least, most int
	baseless    bool
	do          func(s *session, words []string) string
}

// acts are all of them, by their first words.
func acts() map[string]act {
	return map[string]act{
		"open":    {least: 1, most: 1, baseless: true, do: open},
		"source":  {least: 1, most: 1, baseless: true, do: addSource},
		"node":    {least: 2, most: anyMany, baseless: true, do: addNode},
		"give":    {least: 2, most: 2, baseless: true, do: give},
		"clear":   {baseless: true, do: forget},
		"build":   {least: 2, most: 2, do: buildAll},
		"why":     {least: 1, most: 1, do: why},
		"put":     {most: anyMany, do: put},
		"find":    {least: 1, most: 1, do: find},
		"delete":  {least: 1, most: 1, do: remove},
		"commit":  {do: commit},
		"tidy":    {least: 1, most: 1, do: tidy},
		"upgrade": {least: 1, most: 1, do: upgrade},
		"dump":    {do: dumpAll},
		"load":    {do: loadAll},
		"records": {do: records},
		"failing": {least: 1, most: 1, baseless: true, do: failing},
		"falling": {least: 1, most: 1, baseless: true, do: falling},
		"crash":   {most: anyMany, baseless: true, do: crash},
		"files":   {baseless: true, do: files},
	}
}

func open(s *session, words []string) string {
	b, e := base.Open(s.fs, count(words[0]))
	if e == api.OK {
		s.base = b
	}
	return toldError(e)
}

func addSource(s *session, words []string) string {
	return add(s, api.Node{Name: text(words[0]), Source: true})
}

func addNode(s *session, words []string) string {
	return add(s, api.Node{Name: text(words[0]), Rule: number(words[1]), Deps: texts(words[2:])})
}

// add puts a node behind all others, if there may be one more.
func add(s *session, n api.Node) string {
	must(len(s.nodes) < api.MaxNodes)
	s.nodes = append(s.nodes, n)
	return toldError(api.OK)
}

func give(s *session, words []string) string {
	s.given = append(s.given, api.Step{Name: text(words[0]), Contents: number(words[1])})
	return toldError(api.OK)
}

func forget(s *session, _ []string) string {
	s.nodes, s.given = nil, nil
	return toldError(api.OK)
}

func buildAll(s *session, words []string) string {
	steps, e := s.base.Build(s.nodes, s.given, number(words[0]), count(words[1]))
	if e != api.OK {
		return toldError(e)
	}
	sources := map[string]bool{}
	for _, n := range s.nodes {
		sources[n.Name] = n.Source
	}
	var lines strings.Builder
	for _, step := range steps {
		switch {
		case sources[step.Name]:
			lines.WriteString(toldStep("source", step))
		case step.Ran:
			lines.WriteString(toldStep("ran", step))
		default:
			lines.WriteString(toldStep("kept", step))
		}
	}
	return lines.String()
}

func why(s *session, words []string) string {
	n, e := build.Why(s.base.Store(), s.nodes, s.given, text(words[0]))
	if e != api.OK {
		return toldError(e)
	}
	return told(strconv.Itoa(n))
}

func put(s *session, words []string) string {
	r, e := load.Line(escape.Join(words...))
	must(e == api.OK)
	return toldError(s.base.Store().Put(r))
}

func find(s *session, words []string) string {
	r, there := s.base.Store().Find(text(words[0]))
	if !there {
		return told("none")
	}
	// What a store has may be at its version, and, moved, at the newest one: neither is refused.
	r, _ = migrate.To(s.base.Store().Version(), newest, r)
	line, _ := dump.Line(r)
	return told(line)
}

func remove(s *session, words []string) string {
	return toldError(s.base.Store().Delete(text(words[0])))
}

func commit(s *session, _ []string) string {
	return toldError(s.base.Store().Commit())
}

func tidy(s *session, words []string) string {
	done, e := s.base.Tidy(count(words[0]))
	switch {
	case e != api.OK:
		return toldError(e)
	case done:
		return told("done")
	}
	return told("no")
}

func upgrade(s *session, words []string) string {
	return toldError(s.base.Upgrade(count(words[0])))
}

func dumpAll(s *session, _ []string) string {
	text, e := s.base.Dump()
	if e != api.OK {
		return toldError(e)
	}
	s.text = text
	return text
}

func loadAll(s *session, _ []string) string {
	return toldError(s.base.Load(s.text))
}

func records(s *session, _ []string) string {
	store := s.base.Store()
	return told(strconv.Itoa(len(store.Records())), strconv.Itoa(store.Version()))
}

func failing(s *session, words []string) string {
	s.fs.Fail(count(words[0]))
	return toldError(api.OK)
}

func falling(s *session, words []string) string {
	s.fs.Fall(count(words[0]))
	return toldError(api.OK)
}

func crash(s *session, words []string) string {
	s.fs.Crash(counts(words)...)
	return toldError(api.OK)
}

func files(s *session, _ []string) string {
	var lines strings.Builder
	for _, name := range s.fs.Names() {
		b, _ := s.fs.Read(name)
		lines.WriteString(told(escape.Put(name), strconv.Itoa(len(b)), strconv.Itoa(s.fs.Safe(name))))
	}
	return lines.String()
}
