package schema

import (
	"tephra/api"
	"tephra/cursor"
	"tephra/intern"
)

// reader takes the fields of a record, one behind the other. What can't be taken is left zero: Put doesn't make the same payloads of that again.
type reader struct {
	version int
	table   *intern.Table
	from    *cursor.Cursor
}

// taken is the record of payloads, all but the last of which are texts; the table has these then.
func taken(version int, t *intern.Table, payloads [][]byte) api.Record {
	last := len(payloads) - 1
	for _, p := range payloads[:last] {
		t.ID(string(p[1:]))
	}
	p := &reader{version: version, table: t, from: cursor.New(payloads[last], 0)}
	r := api.Record{Kind: int(p.from.Byte())}
	took := fields{target: p.target, rule: p.rule, deps: p.deps, out: p.out, when: p.when, tag: p.tag}
	for _, take := range took.of(version, r.Kind) {
		take(&r)
	}
	return r
}

func (p *reader) target(r *api.Record) { r.Target = p.name() }

func (p *reader) rule(r *api.Record) { r.Rule = p.from.Number() }

func (p *reader) out(r *api.Record) { r.Out = p.from.Number() }

func (p *reader) when(r *api.Record) { r.When = p.from.Number() }

func (p *reader) deps(r *api.Record) {
	// No more are taken than there may be, however many are said to stand there.
	for range min(p.from.Number(), api.MaxDeps) {
		d := p.dep()
		d.Hash = p.from.Number()
		r.Deps = append(r.Deps, d)
	}
}

func (p *reader) tag(r *api.Record) {
	if n := p.from.Number(); n != 0 {
		r.Tag = p.text(n - 1)
	}
}

// dep takes a dep's name, and whether it is Order, where that can be.
func (p *reader) dep() api.Dep {
	if p.version < withTag {
		return api.Dep{Name: p.name()}
	}
	twice := p.from.Number()
	return api.Dep{Name: p.text(twice / 2), Order: twice%2 == 1}
}

// name takes a name: its bytes, or its number.
func (p *reader) name() string {
	if p.version < withTable {
		return p.from.Text(api.MaxName)
	}
	return p.text(p.from.Number())
}

// text is the text of a number in the table.
func (p *reader) text(id uint64) string {
	s, _ := p.table.Text(id)
	return s
}
