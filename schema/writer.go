package schema

import (
	"tephra/api"
	"tephra/blob"
	"tephra/intern"
	"tephra/varint"
)

// writer lays the fields of a record, one behind the other.
type writer struct {
	version int
	table   *intern.Table
	bytes   []byte
}

// written is the payload of a record that may be at a version, and whose texts are in the table, if it has them there.
func written(version int, t *intern.Table, r api.Record) []byte {
	w := &writer{version: version, table: t, bytes: []byte{byte(r.Kind)}}
	laid := fields{target: w.target, rule: w.rule, deps: w.deps, out: w.out, when: w.when, tag: w.tag}
	for _, lay := range laid.of(version, r.Kind) {
		lay(&r)
	}
	return w.bytes
}

func (w *writer) target(r *api.Record) { w.name(r.Target) }

func (w *writer) rule(r *api.Record) { w.number(r.Rule) }

func (w *writer) out(r *api.Record) { w.number(r.Out) }

func (w *writer) when(r *api.Record) { w.number(r.When) }

func (w *writer) deps(r *api.Record) {
	w.number(uint64(len(r.Deps)))
	for _, d := range r.Deps {
		w.dep(d)
		w.number(d.Hash)
	}
}

func (w *writer) tag(r *api.Record) {
	if r.Tag == "" {
		w.number(0)
		return
	}
	w.number(w.id(r.Tag) + 1)
}

// dep lays a dep's name, and whether it is Order, where that can be.
func (w *writer) dep(d api.Dep) {
	if w.version < withTag {
		w.name(d.Name)
		return
	}
	twice := 2 * w.id(d.Name)
	if d.Order {
		twice++
	}
	w.number(twice)
}

// name lays a name: its bytes, or its number.
func (w *writer) name(s string) {
	if w.version < withTable {
		w.bytes = append(w.bytes, blob.Put(nil, s)...)
		return
	}
	w.number(w.id(s))
}

func (w *writer) number(n uint64) {
	w.bytes = append(w.bytes, varint.Put(nil, n)...)
}

// id is the number of a text that is in the table.
func (w *writer) id(s string) uint64 {
	id, _ := w.table.Find(s)
	return id
}
