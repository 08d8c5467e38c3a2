package schema

import "tephra/api"

// fields has for each field of a record what lays it, or what takes it.
type fields struct {
	target, rule, deps, out, when, tag func(r *api.Record)
}

// of are those fields that a record of a kind has in its payload, in the order in which they stand there. So what is laid and what is taken can't come apart.
func (f fields) of(version, kind int) []func(r *api.Record) {
	switch kind {
	case api.Trace:
		all := []func(r *api.Record){f.target, f.rule, f.deps, f.out}
		if version >= withWhen {
			all = append(all, f.when)
		}
		if version >= withTag {
			all = append(all, f.tag)
		}
		return all
	case api.Gone:
		return []func(r *api.Record){f.target}
	}
	return nil
}
