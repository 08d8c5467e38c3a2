package dirty

import "tephra/api"

// asked is that of which is asked: a node, its trace, if it is there, and the digests of its Deps' contents.
type asked struct {
	node   api.Node
	trace  api.Record
	there  bool
	hashes []uint64
}

// question has how it is told of what is asked whether it is so.
type question struct {
	isSo func(a asked) bool
}

// questions are all of them; the first that is so is told, by its place, from 1 on. Each leans on that those ahead of it aren't so.
func questions() [4]question {
	return [...]question{
		{isSo: func(a asked) bool { return !a.there }},
		{isSo: func(a asked) bool { return a.trace.Rule != a.node.Rule }},
		{isSo: otherDeps},
		{isSo: otherHash},
	}
}

// otherDeps tells whether the trace has other Deps than the node, or there isn't a digest of each.
func otherDeps(a asked) bool {
	if len(a.trace.Deps) != len(a.node.Deps) || len(a.hashes) != len(a.node.Deps) {
		return true
	}
	for i, d := range a.trace.Deps {
		if d.Name != a.node.Deps[i] {
			return true
		}
	}
	return false
}

// otherHash tells whether one of the trace's Deps that counts has another digest.
func otherHash(a asked) bool {
	for i, d := range a.trace.Deps {
		if !d.Order && d.Hash != a.hashes[i] {
			return true
		}
	}
	return false
}
