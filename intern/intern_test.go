package intern_test

import (
	"math"
	"slices"
	"strconv"
	"strings"
	"testing"

	"tephra/intern"
)

// strange: texts that are near to each other, and not the same.
var strange = []string{"", "a", "A", "b", "ab", "ba", "a\x00", "\x00", "\x00\x00", "\xff", "\xff\xfe", "a ", " a", "ä", "a\u0308", "0", "-1", strings.Repeat("a", 3000), strings.Repeat("a", 3001)}

// wantTexts holds all that a table tells against the texts that are wanted.
func wantTexts(t *testing.T, table *intern.Table, want []string) {
	t.Helper()
	if n := table.Len(); n != len(want) {
		t.Fatalf("Len() = %d, want %d", n, len(want))
	}
	for i, s := range want {
		if found, ok := table.Text(uint64(i)); found != s || !ok {
			t.Fatalf("Text(%d) = %q %v, want %q", i, found, ok, s)
		}
		if id, ok := table.Find(s); id != uint64(i) || !ok {
			t.Fatalf("Find(%q) = %d %v, want %d", s, id, ok, i)
		}
	}
	for _, id := range []uint64{uint64(len(want)), uint64(len(want)) + 1, 1 << 31, 1 << 32, 1 << 63, math.MaxInt64, math.MaxUint64} {
		if s, ok := table.Text(id); s != "" || ok {
			t.Fatalf("Text(%d) of %d = %q %v", id, len(want), s, ok)
		}
	}
	for _, s := range strange {
		if id, ok := table.Find(s); !slices.Contains(want, s) && (id != 0 || ok) {
			t.Fatalf("Find(%q) = %d %v, and it isn't there", s, id, ok)
		}
	}
}

// wantID holds what ID answers against what is wanted.
func wantID(t *testing.T, table *intern.Table, s string, want uint64, wantFresh bool) {
	t.Helper()
	if id, fresh := table.ID(s); id != want || fresh != wantFresh {
		t.Fatalf("ID(%q) = %d %v, want %d %v", s, id, fresh, want, wantFresh)
	}
}

func TestNewNumbersEachOnce(t *testing.T) {
	for _, x := range []struct{ texts, want []string }{
		{nil, nil},
		{[]string{}, nil},
		{[]string{""}, []string{""}},
		{[]string{"a"}, []string{"a"}},
		{[]string{"a", "b", "a"}, []string{"a", "b"}},
		{[]string{"b", "a", "a", "b", ""}, []string{"b", "a", ""}},
		{[]string{"", "", "x", ""}, []string{"", "x"}},
		{strange, strange},
		{append(slices.Clone(strange), strange...), strange},
	} {
		wantTexts(t, intern.New(x.texts...), x.want)
	}
}

func TestIDPutsBehind(t *testing.T) {
	table := intern.New()
	for i, s := range strange {
		wantID(t, table, s, uint64(i), true)
		wantID(t, table, s, uint64(i), false)
		wantTexts(t, table, strange[:i+1])
	}
	for i, s := range strange {
		wantID(t, table, s, uint64(i), false)
	}
	wantTexts(t, table, strange)
}

func TestFindAndTextPutNothing(t *testing.T) {
	table := intern.New("a")
	table.Find("b")
	table.Find("")
	table.Text(1)
	table.Text(math.MaxUint64)
	wantTexts(t, table, []string{"a"})
	wantID(t, table, "b", 1, true)
}

func TestCutForgets(t *testing.T) {
	for size := range len(strange) + 1 {
		for _, n := range []int{size, size - len(strange) - 1, size - len(strange) - 100} {
			table := intern.New(strange...)
			left := max(n, 0)
			table.Cut(n)
			wantTexts(t, table, strange[:left])
			table.Cut(n)
			wantTexts(t, table, strange[:left])
			wantID(t, table, "new", uint64(left), true)
		}
	}
}

func TestCutOfNoMore(t *testing.T) {
	for _, n := range []int{2, 3, 100, math.MaxInt32, math.MaxInt} {
		table := intern.New("a", "b")
		table.Cut(n)
		wantTexts(t, table, []string{"a", "b"})
		wantID(t, table, "c", 2, true)
	}
	for _, n := range []int{0, -1, -2, math.MinInt32, math.MinInt, math.MinInt + 1} {
		table := intern.New("a", "b")
		table.Cut(n)
		wantTexts(t, table, nil)
		wantID(t, table, "b", 0, true)
		wantID(t, table, "a", 1, true)
		wantTexts(t, table, []string{"b", "a"})
	}
}

// TestCutNumbersAnew: what was forgotten may come again, at another place, and others at its own.
func TestCutNumbersAnew(t *testing.T) {
	table := intern.New("a", "b", "c", "d")
	table.Cut(2)
	wantID(t, table, "d", 2, true)
	wantID(t, table, "e", 3, true)
	wantID(t, table, "c", 4, true)
	wantID(t, table, "d", 2, false)
	wantTexts(t, table, []string{"a", "b", "d", "e", "c"})
}

func TestCopyIsAnother(t *testing.T) {
	for _, texts := range [][]string{nil, {"a"}, {"a", "b", "c"}, strange} {
		table := intern.New(texts...)
		other := table.Copy()
		wantTexts(t, other, texts)
		wantID(t, table, "one", uint64(len(texts)), true)
		wantTexts(t, other, texts)
		wantID(t, other, "two", uint64(len(texts)), true)
		wantTexts(t, table, append(slices.Clone(texts), "one"))
		wantTexts(t, other, append(slices.Clone(texts), "two"))
		table.Cut(0)
		wantTexts(t, table, nil)
		wantTexts(t, other, append(slices.Clone(texts), "two"))
		wantID(t, table, "three", 0, true)
		wantTexts(t, other, append(slices.Clone(texts), "two"))
	}
}

// TestCopyOfACutSharesNoRoom: behind a cut there is room, which a copy doesn't write into.
func TestCopyOfACutSharesNoRoom(t *testing.T) {
	table := intern.New("a", "b", "c", "d")
	table.Cut(1)
	other := table.Copy()
	wantID(t, table, "x", 1, true)
	wantID(t, other, "y", 1, true)
	wantTexts(t, table, []string{"a", "x"})
	wantTexts(t, other, []string{"a", "y"})
}

func TestTextsAreNotKept(t *testing.T) {
	texts := []string{"a", "b", "a"}
	table := intern.New(texts...)
	texts[0], texts[1] = "x", "y"
	wantTexts(t, table, []string{"a", "b"})
	table.ID("c")
	if !slices.Equal(texts, []string{"x", "y", "a"}) {
		t.Errorf("what is handed in was changed: %q", texts)
	}
}

// TestNilAndZeroTables: no call panics; both are as empty ones, and what nobody keeps stays empty.
func TestNilAndZeroTables(t *testing.T) {
	var none *intern.Table
	wantTexts(t, none, nil)
	none.Cut(0)
	none.Cut(-1)
	none.ID("a")
	wantTexts(t, none, nil)
	other := none.Copy()
	wantID(t, other, "a", 0, true)
	wantTexts(t, other, []string{"a"})
	zero := &intern.Table{}
	zero.Cut(1)
	wantTexts(t, zero, nil)
	wantTexts(t, zero.Copy(), nil)
	wantID(t, zero, "a", 0, true)
	wantTexts(t, zero, []string{"a"})
}

// model: a table in the words of the chapter, as a list that is gone through.
type model struct{ texts []string }

func (m *model) id(s string) (uint64, bool) {
	if i := slices.Index(m.texts, s); i >= 0 {
		return uint64(i), false
	}
	m.texts = append(slices.Clip(m.texts), s)
	return uint64(len(m.texts) - 1), true
}

func (m *model) cut(n int) {
	m.texts = m.texts[:min(max(n, 0), len(m.texts))]
}

// TestEveryOrderOfCalls: tables, and copies of them, told and asked in orders that look like chance.
func TestEveryOrderOfCalls(t *testing.T) {
	for round := range 300 {
		x := uint64(round)
		tables := []*intern.Table{intern.New()}
		models := []*model{{}}
		for range 200 {
			x = x*6364136223846793005 + 1442695040888963407
			which := int(x>>60) % len(tables)
			table, m := tables[which], models[which]
			switch n := int(x >> 33 % 31); x >> 40 % 10 {
			case 0:
				table.Cut(n%16 - 2)
				m.cut(n%16 - 2)
			case 1:
				tables = append(tables, table.Copy())
				models = append(models, &model{texts: slices.Clone(m.texts)})
			default:
				s := strconv.Itoa(n % 20)
				want, fresh := m.id(s)
				wantID(t, table, s, want, fresh)
			}
			if len(tables) > 4 {
				tables, models = tables[1:], models[1:]
			}
		}
		for i, table := range tables {
			wantTexts(t, table, models[i].texts)
		}
	}
}

func TestManyTexts(t *testing.T) {
	table := intern.New()
	var want []string
	for i := range 30000 {
		s := strconv.Itoa(i * 7)
		wantID(t, table, s, uint64(i), true)
		want = append(want, s)
	}
	wantTexts(t, table, want)
	table.Cut(17)
	wantTexts(t, table, want[:17])
}
