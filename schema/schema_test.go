package schema_test

import (
	"bytes"
	"math"
	"slices"
	"strconv"
	"strings"
	"testing"

	"tephra/api"
	"tephra/intern"
	"tephra/record"
	"tephra/schema"
)

// long: a text of that many bytes.
func long(size int) string {
	return strings.Repeat("x", size)
}

// many: that many deps, no two alike, every third one Order, if there may be such.
func many(size int, orders bool) []api.Dep {
	l := []api.Dep{}
	for i := range size {
		l = append(l, api.Dep{Name: "d" + strconv.Itoa(i), Hash: math.MaxUint64 >> (4 * i), Order: orders && i%3 == 0})
	}
	return l
}

// gone: the record that a target is.
func gone(target string) api.Record {
	return api.Record{Kind: api.Gone, Target: target}
}

// chatty: 300 texts for a table, so that numbers have one byte and two.
func chatty() []string {
	texts := []string{}
	for i := range 300 {
		texts = append(texts, "t"+strconv.Itoa(i))
	}
	return texts
}

// records: such as may be at the version 1, or from the version 2 on, or at 3 alone.
func records() []api.Record {
	full := api.Record{Kind: api.Trace, Target: "a", Rule: 300, Deps: []api.Dep{{Name: "b", Hash: 5}, {Name: "c", Hash: 1 << 63}}, Out: 7}
	timed := full
	timed.When = 129
	all := api.Record{Kind: api.Trace, Target: "a", Rule: 1, Deps: []api.Dep{{Name: "b", Hash: 2, Order: true}, {Name: "c", Hash: 3}}, Out: 4, When: 5, Tag: "t"}
	top := uint64(math.MaxUint64)
	l := []api.Record{
		gone("a"), gone("t299"), gone(long(64)), gone("\x00"), gone("\x00\x02"),
		{Kind: api.Trace, Target: "a"},
		{Kind: api.Trace, Target: "t0", Deps: []api.Dep{{Name: "t127"}, {Name: "t128"}, {Name: "new"}, {Name: "t64"}, {Name: "t63"}}},
		full, timed, all,
		{Kind: api.Trace, Target: long(64), Rule: top, Deps: many(16, false), Out: top},
		{Kind: api.Trace, Target: long(64), Rule: top, Deps: many(16, true), Out: top, When: top, Tag: long(63)},
	}
	for _, tag := range []string{"a", "b", "c", "t0", "t126", "t127", "\x00", long(64)} {
		r := record.Clone(all)
		r.Tag = tag
		l = append(l, r)
	}
	return l
}

// number: a number's bytes, in the words of chapter 1.
func number(n uint64) []byte {
	b := []byte{}
	for n >= 128 {
		b = append(b, byte(n%128)+128)
		n /= 128
	}
	return append(b, byte(n))
}

// told: a record's payloads, in the words of the chapter, and the texts of the table behind them.
func told(version int, texts []string, r api.Record) ([][]byte, []string) {
	texts = slices.Clone(texts)
	payloads := [][]byte{}
	if version > 1 {
		for _, s := range record.Names(r) {
			if !slices.Contains(texts, s) {
				texts = append(texts, s)
				payloads = append(payloads, []byte("\x00"+s))
			}
		}
	}
	b := []byte{byte(r.Kind)}
	place := func(s string) uint64 { return uint64(slices.Index(texts, s)) }
	text := func(s string) {
		if version == 1 {
			b = append(append(b, number(uint64(len(s)))...), s...)
		} else {
			b = append(b, number(place(s))...)
		}
	}
	text(r.Target)
	if r.Kind == 2 {
		return append(payloads, b), texts
	}
	b = append(b, number(r.Rule)...)
	b = append(b, number(uint64(len(r.Deps)))...)
	for _, d := range r.Deps {
		switch {
		case version < 3:
			text(d.Name)
		case d.Order:
			b = append(b, number(2*place(d.Name)+1)...)
		default:
			b = append(b, number(2*place(d.Name))...)
		}
		b = append(b, number(d.Hash)...)
	}
	b = append(b, number(r.Out)...)
	if version > 1 {
		b = append(b, number(r.When)...)
	}
	if version > 2 && r.Tag == "" {
		b = append(b, 0)
	} else if version > 2 {
		b = append(b, number(place(r.Tag)+1)...)
	}
	return append(payloads, b), texts
}

// texts: all of a table.
func texts(t *intern.Table) []string {
	l := []string{}
	for i := range t.Len() {
		s, _ := t.Text(uint64(i))
		l = append(l, s)
	}
	return l
}

// alike tells whether both are the same payloads.
func alike(a, b [][]byte) bool {
	return slices.EqualFunc(a, b, bytes.Equal)
}

// laid: payloads, written out as texts.
func laid(l ...string) [][]byte {
	payloads := [][]byte{}
	for _, s := range l {
		payloads = append(payloads, []byte(s))
	}
	return payloads
}

// tables: texts that are in a table ahead.
func tables() [][]string {
	return [][]string{nil, {"a"}, {"b", "t"}, {"c", "b", "a", "t"}, {"", long(65), long(3000)}, chatty()}
}

func TestPutOfTheChapter(t *testing.T) {
	deps := []api.Dep{{Name: "b", Hash: 2}, {Name: "c", Hash: 300}}
	ordered := []api.Dep{{Name: "b", Hash: 2, Order: true}, {Name: "c", Hash: 300}}
	for i, x := range []struct {
		version int
		ahead   []string
		r       api.Record
		want    [][]byte
		behind  []string
	}{
		{1, nil, gone("a"), laid("\x02\x01a"), nil},
		{2, nil, gone("a"), laid("\x00a", "\x02\x00"), []string{"a"}},
		{3, nil, gone("a"), laid("\x00a", "\x02\x00"), []string{"a"}},
		{1, []string{"q"}, gone("a"), laid("\x02\x01a"), []string{"q"}},
		{2, []string{"q", "a"}, gone("a"), laid("\x02\x01"), []string{"q", "a"}},
		{1, nil, api.Record{Kind: 1, Target: "a", Rule: 9, Deps: deps, Out: 4}, laid("\x01\x01a\x09\x02\x01b\x02\x01c\xac\x02\x04"), nil},
		{2, nil, api.Record{Kind: 1, Target: "a", Rule: 9, Deps: deps, Out: 4, When: 6}, laid("\x00a", "\x00b", "\x00c", "\x01\x00\x09\x02\x01\x02\x02\xac\x02\x04\x06"), []string{"a", "b", "c"}},
		{2, []string{"c", "q"}, api.Record{Kind: 1, Target: "a", Deps: deps}, laid("\x00a", "\x00b", "\x01\x02\x00\x02\x03\x02\x00\xac\x02\x00\x00"), []string{"c", "q", "a", "b"}},
		{3, nil, api.Record{Kind: 1, Target: "a", Rule: 9, Deps: ordered, Out: 4, When: 6, Tag: "t"}, laid("\x00a", "\x00b", "\x00c", "\x00t", "\x01\x00\x09\x02\x03\x02\x04\xac\x02\x04\x06\x04"), []string{"a", "b", "c", "t"}},
		{3, nil, api.Record{Kind: 1, Target: "a", Rule: 9, Deps: deps, Out: 4}, laid("\x00a", "\x00b", "\x00c", "\x01\x00\x09\x02\x02\x02\x04\xac\x02\x04\x00\x00"), []string{"a", "b", "c"}},
		{3, nil, api.Record{Kind: 1, Target: "a", Tag: "a"}, laid("\x00a", "\x01\x00\x00\x00\x00\x00\x01"), []string{"a"}},
	} {
		table := intern.New(x.ahead...)
		payloads, e := schema.Put(x.version, table, x.r)
		if e != api.OK || !alike(payloads, x.want) {
			t.Errorf("%d: Put = %q %d, want %q", i, payloads, e, x.want)
		}
		if !slices.Equal(texts(table), x.behind) {
			t.Errorf("%d: the table has %q, want %q", i, texts(table), x.behind)
		}
	}
}

// TestThereAndBack: all records, at all versions, by all tables: what is laid is as the chapter tells it, and is read as that record.
func TestThereAndBack(t *testing.T) {
	laid := 0
	for version := 1; version <= 3; version++ {
		for _, ahead := range tables() {
			for _, r := range records() {
				table, readBy := intern.New(ahead...), intern.New(ahead...)
				payloads, e := schema.Put(version, table, r)
				if !record.May(version, r) {
					if e != api.ErrArg || len(payloads) != 0 || !slices.Equal(texts(table), ahead) {
						t.Errorf("%d: Put(%v) = %q %d", version, r, payloads, e)
					}
					continue
				}
				laid++
				want, behind := told(version, ahead, r)
				if e != api.OK || !alike(payloads, want) || !slices.Equal(texts(table), behind) {
					t.Fatalf("%d: Put(%v) = %q %d, want %q", version, r, payloads, e, want)
				}
				got, next, e := schema.Get(version, readBy, payloads, 0)
				if e != api.OK || next != len(payloads) || !record.Same(got, r) || !slices.Equal(texts(readBy), behind) {
					t.Fatalf("%d: Get of %v = %v %d %d", version, r, got, next, e)
				}
			}
		}
	}
	if laid < 200 {
		t.Errorf("only %d records were laid", laid)
	}
}

// TestOneBehindTheOther: records by one table, read from where each stands.
func TestOneBehindTheOther(t *testing.T) {
	for version := 1; version <= 3; version++ {
		table := intern.New()
		payloads := [][]byte{}
		ends := []int{}
		kept := []api.Record{}
		for _, r := range append(records(), records()...) {
			if more, e := schema.Put(version, table, r); e == api.OK {
				payloads = append(payloads, more...)
				ends = append(ends, len(payloads))
				kept = append(kept, r)
			}
		}
		readBy := intern.New()
		at := 0
		for i, want := range kept {
			r, next, e := schema.Get(version, readBy, payloads, at)
			if e != api.OK || next != ends[i] || !record.Same(r, want) {
				t.Fatalf("%d: the record %d is %v %d %d, want %v %d", version, i, r, next, e, want, ends[i])
			}
			at = next
		}
		if r, next, e := schema.Get(version, readBy, payloads, at); e != api.ErrNone || next != 0 || !record.Same(r, api.Record{}) {
			t.Errorf("%d: behind all is %v %d %d", version, r, next, e)
		}
		if !slices.Equal(texts(readBy), texts(table)) {
			t.Errorf("%d: what is read leaves the table %q, want %q", version, texts(readBy), texts(table))
		}
	}
}

func TestPutRefuses(t *testing.T) {
	may := gone("a")
	mayNot := api.Record{Kind: api.Trace, Target: "a", Deps: []api.Dep{{Name: "a"}}}
	timed := api.Record{Kind: api.Trace, Target: "a", When: 1}
	tagged := api.Record{Kind: api.Trace, Target: "a", Tag: "t"}
	ordered := api.Record{Kind: api.Trace, Target: "a", Deps: []api.Dep{{Name: "b", Order: true}}}
	for i, x := range []struct {
		version int
		r       api.Record
		nilled  bool
		want    api.Errno
	}{
		{0, may, false, api.ErrVersion}, {4, may, false, api.ErrVersion}, {-1, may, false, api.ErrVersion}, {math.MaxInt, may, false, api.ErrVersion}, {math.MinInt, may, false, api.ErrVersion}, {1<<32 + 1, may, false, api.ErrVersion},
		{0, may, true, api.ErrVersion}, {4, mayNot, true, api.ErrVersion}, {0, mayNot, false, api.ErrVersion},
		{1, may, true, api.ErrArg}, {2, may, true, api.ErrArg}, {3, may, true, api.ErrArg}, {3, mayNot, true, api.ErrArg},
		{1, mayNot, false, api.ErrArg}, {2, mayNot, false, api.ErrArg}, {3, mayNot, false, api.ErrArg},
		{1, api.Record{}, false, api.ErrArg}, {3, api.Record{}, false, api.ErrArg},
		{1, timed, false, api.ErrArg}, {1, tagged, false, api.ErrArg}, {2, tagged, false, api.ErrArg}, {1, ordered, false, api.ErrArg}, {2, ordered, false, api.ErrArg},
		{2, timed, false, api.OK}, {3, tagged, false, api.OK}, {3, ordered, false, api.OK},
	} {
		table := intern.New("q")
		var by *intern.Table
		if !x.nilled {
			by = table
		}
		payloads, e := schema.Put(x.version, by, x.r)
		if e != x.want || e != api.OK && (len(payloads) != 0 || !slices.Equal(texts(table), []string{"q"})) {
			t.Errorf("%d: Put = %q %d, want %d; the table has %q", i, payloads, e, x.want, texts(table))
		}
	}
}

func TestGetRefuses(t *testing.T) {
	whole := laid("\x00a", "\x02\x00")
	for i, x := range []struct {
		version  int
		payloads [][]byte
		at       int
		want     api.Errno
	}{
		{0, whole, 0, api.ErrVersion}, {4, whole, 0, api.ErrVersion}, {-1, whole, -1, api.ErrVersion}, {math.MaxInt, whole, 9, api.ErrVersion}, {math.MinInt, nil, 0, api.ErrVersion},
		{2, whole, -1, api.ErrArg}, {2, whole, 3, api.ErrArg}, {1, nil, 1, api.ErrArg}, {3, whole, math.MaxInt, api.ErrArg}, {3, whole, math.MinInt, api.ErrArg},
		{1, nil, 0, api.ErrNone}, {2, whole, 2, api.ErrNone}, {2, whole[:1], 0, api.ErrNone}, {2, laid("\x00a", "\x00b"), 0, api.ErrNone}, {2, laid("\x00a", "\x00b"), 1, api.ErrNone},
		// What could be no record's anyhow ends with texts as well: that is named first.
		{2, laid("\x00"), 0, api.ErrNone}, {3, laid("\x00a", "\x00a"), 0, api.ErrNone}, {2, laid("\x00" + long(65)), 0, api.ErrNone}, {2, laid("\x00q"), 0, api.ErrNone}, {1, laid("\x00a"), 0, api.ErrNone},
		{2, slices.Repeat(laid("\x00a"), 40), 0, api.ErrNone},
		{1, laid("\x00a", "\x02\x01a"), 0, api.ErrForm},
		{1, laid(""), 0, api.ErrForm}, {2, laid(""), 0, api.ErrForm}, {3, laid("", "\x00a"), 0, api.ErrForm}, {2, laid("\x00a", ""), 0, api.ErrForm},
	} {
		for _, ahead := range [][]string{nil, {"q"}, {"q", "r", "s"}} {
			table := intern.New(ahead...)
			r, next, e := schema.Get(x.version, table, x.payloads, x.at)
			if e != x.want || next != 0 || !record.Same(r, api.Record{}) || !slices.Equal(texts(table), ahead) {
				t.Errorf("%d: Get = %v %d %d, want %d; the table has %q", i, r, next, e, x.want, texts(table))
			}
		}
		want := x.want
		if want != api.ErrVersion {
			want = api.ErrArg
		}
		if r, next, e := schema.Get(x.version, nil, x.payloads, x.at); e != want || next != 0 || !record.Same(r, api.Record{}) {
			t.Errorf("%d: Get by no table = %v %d %d, want %d", i, r, next, e, want)
		}
	}
	if _, _, e := schema.Get(1, nil, laid("\x02\x01a"), 0); e != api.ErrArg {
		t.Errorf("at the version 1, Get by no table = %d", e)
	}
}

// TestGetOfNoRecord: payloads near to a record's, by a table of q and the text of 65 bytes.
func TestGetOfNoRecord(t *testing.T) {
	ahead := []string{"q", long(65), "", "r"}
	for i, x := range []struct {
		version  int
		payloads [][]byte
	}{
		// What is gone.
		{1, laid("\x02")}, {1, laid("\x02\x00")}, {1, laid("\x02\x01")}, {1, laid("\x02\x01aa")}, {1, laid("\x02\x81\x00a")}, {1, laid("\x02\x41" + long(65))}, {1, laid("\x03\x01a")}, {1, laid("\x82\x00\x01a")},
		{2, laid("\x02")}, {2, laid("\x02\x00\x00")}, {2, laid("\x02\x80\x00")}, {2, laid("\x02\x04")}, {2, laid("\x02\x01")}, {2, laid("\x02\x02")}, {3, laid("\x02\xff\xff\xff\xff\xff\xff\xff\xff\xff\x01")}, {2, laid("\x03\x00")}, {2, laid("\xff\x00")},
		// Texts that aren't the record's, aren't fresh, or come twice, or in another order.
		{2, laid("\x00z", "\x02\x00")}, {2, laid("\x00z", "\x00y", "\x02\x04")}, {2, laid("\x00y", "\x00z", "\x02\x05")}, {2, laid("\x00q", "\x02\x00")}, {2, laid("\x00z", "\x00z", "\x02\x04")}, {2, laid("\x00", "\x02\x02")}, {2, laid("\x00"+long(66), "\x02\x04")},
		{2, laid("\x00b", "\x00a", "\x01\x05\x00\x01\x04\x00\x00\x00")}, {2, laid("\x00t", "\x00z", "\x01\x05\x00\x00\x00\x00\x04")}, {3, laid("\x00t", "\x00z", "\x01\x05\x00\x00\x00\x00\x05")},
		// Traces: a field too few, one too many, a number with a byte too many.
		{1, laid("\x01\x01a\x00\x00")}, {1, laid("\x01\x01a\x00\x00\x00\x00")}, {1, laid("\x01\x01a\x80\x00\x00\x00")},
		{2, laid("\x01\x00\x00\x00\x00")}, {2, laid("\x01\x00\x00\x00\x00\x00\x00")}, {2, laid("\x01\x00\x00\x00\x00\x80\x00")},
		{3, laid("\x01\x00\x00\x00\x00\x00")}, {3, laid("\x01\x00\x00\x00\x00\x00\x00\x00")}, {3, laid("\x01\x00\x00\x00\x00\x00\x80\x00")},
		// Deps: the target, two alike, no name, fewer or more than are said to stand there, more than there may be.
		{1, laid("\x01\x01a\x00\x01\x01a\x00\x00")}, {1, laid("\x01\x01a\x00\x02\x01b\x00\x01b\x00\x00")}, {1, laid("\x01\x01a\x00\x01\x00\x00\x00")}, {1, laid("\x01\x01a\x00\x02\x01b\x00\x00")}, {1, laid("\x01\x01a\x00\x00\x01b\x00\x00")},
		{1, laid("\x01\x01a\x00\x01\x41" + long(65) + "\x00\x00")},
		{2, laid("\x01\x00\x00\x01\x00\x00\x00\x00")}, {2, laid("\x01\x00\x00\x02\x03\x00\x03\x00\x00\x00")}, {2, laid("\x01\x00\x00\x01\x01\x00\x00\x00")}, {2, laid("\x01\x00\x00\x01\x02\x00\x00\x00")}, {2, laid("\x01\x00\x00\x01\x04\x00\x00\x00")},
		{3, laid("\x01\x00\x00\x02\x06\x00\x07\x00\x00\x00\x00")}, {3, laid("\x01\x00\x00\x01\x08\x00\x00\x00\x00")}, {3, laid("\x01\x00\x00\x01\x01\x00\x00\x00\x00")},
		{1, laid("\x01\x01a\x00\x11" + strings.Repeat("\x01b\x00", 17) + "\x00")}, {1, laid("\x01\x01a\x00\xff\xff\xff\xff\xff\xff\xff\xff\xff\x01\x01b\x00\x00")}, {2, laid("\x01\x00\x00\xff\xff\xff\xff\xff\xff\xff\xff\x7f\x03\x00\x00\x00")},
		// Tags: one that isn't there, an empty one by its number, one of 65 bytes.
		{3, laid("\x01\x00\x00\x00\x00\x00\x05")}, {3, laid("\x01\x00\x00\x00\x00\x00\x03")}, {3, laid("\x01\x00\x00\x00\x00\x00\x02")}, {3, laid("\x01\x00\x00\x00\x00\x00\xff\xff\xff\xff\xff\xff\xff\xff\xff\x01")},
		// Payloads of other versions.
		{1, laid("\x01\x00\x00\x00\x00\x00")}, {2, laid("\x01\x01a\x00\x00\x00")}, {2, laid("\x01\x00\x00\x00\x00\x00\x04")}, {3, laid("\x01\x00\x00\x00\x00\x00")},
	} {
		table := intern.New(ahead...)
		r, next, e := schema.Get(x.version, table, x.payloads, 0)
		if e != api.ErrForm || next != 0 || !record.Same(r, api.Record{}) || !slices.Equal(texts(table), ahead) {
			t.Errorf("%d: Get(%d, %q) = %v %d %d; the table has %q", i, x.version, x.payloads, r, next, e, texts(table))
		}
	}
}

// TestSixteenDepsAndNoMore: a count of 17 isn't read, though 17 deps stand there.
func TestSixteenDepsAndNoMore(t *testing.T) {
	for _, size := range []int{15, 16, 17, 18} {
		for version := 1; version <= 3; version++ {
			r := api.Record{Kind: api.Trace, Target: "a", Deps: many(size, false)}
			payloads, behind := told(version, nil, r)
			table := intern.New()
			got, next, e := schema.Get(version, table, payloads, 0)
			if size <= 16 && (e != api.OK || next != len(payloads) || !record.Same(got, r)) {
				t.Errorf("%d deps at %d: %d", size, version, e)
			}
			if size > 16 && (e != api.ErrForm || next != 0 || table.Len() != 0) {
				t.Errorf("%d deps at %d: %d, with %d texts", size, version, e, len(behind))
			}
		}
	}
}

// wantOneWay holds what is read against what Put makes of it, and what isn't read against what is promised of that.
func wantOneWay(t *testing.T, version int, ahead []string, payloads [][]byte, at int) bool {
	t.Helper()
	table := intern.New(ahead...)
	r, next, e := schema.Get(version, table, payloads, at)
	if e != api.OK {
		if next != 0 || !record.Same(r, api.Record{}) || !slices.Equal(texts(table), ahead) {
			t.Fatalf("Get(%d, %q, %d) = %v %d %d; the table has %q", version, payloads, at, r, next, e, texts(table))
		}
		return false
	}
	again := intern.New(ahead...)
	made, e := schema.Put(version, again, r)
	if e != api.OK || next <= at || next > len(payloads) || !alike(made, payloads[at:next]) || !slices.Equal(texts(table), texts(again)) {
		t.Fatalf("Get(%d, %q, %d) = %v %d, of which Put makes %q %d", version, payloads, at, r, next, made, e)
	}
	want, behind := told(version, ahead, r)
	if !alike(want, payloads[at:next]) || !slices.Equal(behind, texts(table)) {
		t.Fatalf("Get(%d, %q, %d) = %v, which is %q", version, payloads, at, r, want)
	}
	return true
}

// TestOneWayOfTurnedBytes: each byte of records' payloads is made each other one, left out, or put twice.
func TestOneWayOfTurnedBytes(t *testing.T) {
	read := 0
	for version := 1; version <= 3; version++ {
		for _, r := range records()[:10] {
			payloads, _ := told(version, []string{"q"}, r)
			if !record.May(version, r) {
				continue
			}
			for i, p := range payloads {
				for j := range p {
					other := slices.Clone(payloads)
					for turn := range 256 {
						other[i] = slices.Clone(p)
						other[i][j] ^= byte(turn)
						if wantOneWay(t, version, []string{"q"}, other, 0) {
							read++
						}
					}
					other[i] = slices.Delete(slices.Clone(p), j, j+1)
					wantOneWay(t, version, []string{"q"}, other, 0)
					other[i] = slices.Insert(slices.Clone(p), j, p[j])
					wantOneWay(t, version, []string{"q"}, other, 0)
				}
				wantOneWay(t, version, []string{"q"}, slices.Delete(slices.Clone(payloads), i, i+1), 0)
				wantOneWay(t, version, []string{"q"}, slices.Insert(slices.Clone(payloads), i, p), 0)
			}
		}
	}
	if read < 1000 {
		t.Errorf("only %d turned ones were read", read)
	}
}

// TestOneWayOfAnyBytes: payloads put together of small bytes, so that often they are a record's, and often nearly.
func TestOneWayOfAnyBytes(t *testing.T) {
	x := uint64(9)
	pick := func(n uint64) int {
		x = x*6364136223846793005 + 1442695040888963407
		return int(x >> 33 % n)
	}
	read := 0
	aheads := tables()[:5]
	for range 300000 {
		payloads := [][]byte{}
		for range pick(4) {
			p := []byte{byte(pick(3))}
			for range pick(9) {
				p = append(p, byte(pick(4)))
			}
			payloads = append(payloads, p)
		}
		ahead := aheads[pick(5)]
		if wantOneWay(t, 1+pick(3), ahead, payloads, pick(uint64(len(payloads)+1))) {
			read++
		}
	}
	if read < 3000 {
		t.Errorf("only %d of any bytes were read", read)
	}
}

// TestNothingIsShared: neither what is handed in, nor what is answered, is kept, and nothing handed in is changed.
func TestNothingIsShared(t *testing.T) {
	for version := 1; version <= 3; version++ {
		for _, r := range records() {
			table := intern.New()
			given := record.Clone(r)
			payloads, e := schema.Put(version, table, given)
			if e != api.OK {
				continue
			}
			want, behind := told(version, nil, r)
			if !record.Same(given, r) {
				t.Fatalf("Put changed %v to %v", r, given)
			}
			clear(given.Deps)
			readBy := intern.New()
			got, _, _ := schema.Get(version, readBy, payloads, 0)
			if !alike(payloads, want) {
				t.Fatalf("Get, or writing into the deps, changed payloads: %q, want %q", payloads, want)
			}
			for i, p := range payloads {
				_ = append(p, "behind"...)
				if !alike(payloads, want) {
					t.Fatalf("the payload %d shares memory with another one", i)
				}
			}
			for _, p := range payloads {
				for i := range p {
					p[i] = '!'
				}
			}
			if !record.Same(got, r) || !slices.Equal(texts(readBy), texts(table)) || version > 1 && !slices.Equal(texts(table), behind) {
				t.Fatalf("whoever wrote into payloads changed %v to %v", r, got)
			}
			clear(got.Deps)
			if again, _ := schema.Put(version, intern.New(), r); !alike(again, want) {
				t.Fatalf("whoever wrote into a record changed what is laid: %q", again)
			}
		}
	}
}

// TestAnyArguments: no call panics, whatever it is given.
func TestAnyArguments(t *testing.T) {
	places := []int{math.MinInt, -1, 0, 1, 2, 3, math.MaxInt}
	lists := [][][]byte{nil, {}, {nil}, {{}, nil}, laid("\x00"), laid("\x01"), laid("\x02", "\x00", "\xff"), laid(strings.Repeat("\xff", 4000)), laid("\x00"+long(4000), "\x02\x07")}
	for _, version := range []int{math.MinInt, -1, 0, 1, 2, 3, 4, math.MaxInt} {
		for _, at := range places {
			for _, l := range lists {
				for _, table := range []*intern.Table{nil, {}, intern.New("a")} {
					if r, next, e := schema.Get(version, table, l, at); e == api.OK || next != 0 || !record.Same(r, api.Record{}) {
						t.Errorf("Get(%d, %.99q, %d) = %v %d %d", version, l, at, r, next, e)
					}
				}
			}
		}
		for _, kind := range []int{math.MinInt, -1, 0, 3, 257, 258, math.MaxInt} {
			if l, e := schema.Put(version, intern.New(), api.Record{Kind: kind, Target: "a"}); e == api.OK || len(l) != 0 {
				t.Errorf("Put(%d, kind %d) = %q %d", version, kind, l, e)
			}
		}
	}
}
