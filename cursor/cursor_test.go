package cursor_test

import (
	"math"
	"slices"
	"strings"
	"testing"

	"tephra/api"
	"tephra/blob"
	"tephra/cursor"
	"tephra/varint"
)

// All errors' numbers but OK, and some that are no error's.
var failures = []api.Errno{
	api.ErrArg, api.ErrShort, api.ErrForm, api.ErrSum, api.ErrLimit, api.ErrNone, api.ErrDown, api.ErrIO, api.ErrCycle, api.ErrVersion,
	-1, 10, math.MaxInt, math.MinInt,
}

// next: a number that looks like chance, out of the one before.
func next(x uint64) uint64 {
	return x*6364136223846793005 + 1442695040888963407
}

// wantState holds a cursor's place, what is left and its error against what is wanted.
func wantState(t *testing.T, c *cursor.Cursor, at, left int, e api.Errno) {
	t.Helper()
	if c.At() != at || c.Left() != left || c.Err() != e {
		t.Errorf("at %d, left %d, error %d, want %d %d %d", c.At(), c.Left(), c.Err(), at, left, e)
	}
}

// wantNothing holds against a failed cursor that it takes nothing more, and stays where it is.
func wantNothing(t *testing.T, c *cursor.Cursor) {
	t.Helper()
	at, left, e := c.At(), c.Left(), c.Err()
	if e == api.OK {
		t.Errorf("it hasn't failed")
	}
	for _, most := range []int{0, 9, math.MaxInt, -1, math.MinInt} {
		if b := c.Byte(); b != 0 {
			t.Errorf("Byte took %d", b)
		}
		if n := c.Number(); n != 0 {
			t.Errorf("Number took %d", n)
		}
		if s := c.Text(most); s != "" {
			t.Errorf("Text took %q", s)
		}
		if l := c.Numbers(most); len(l) != 0 {
			t.Errorf("Numbers took %d", l)
		}
		if l := c.Texts(most, 9); len(l) != 0 {
			t.Errorf("Texts took %q", l)
		}
		if l := c.Texts(9, most); len(l) != 0 {
			t.Errorf("Texts took %q", l)
		}
	}
	wantState(t, c, at, left, e)
	for _, f := range append(failures, api.OK) {
		c.Fail(f)
		wantState(t, c, at, left, e)
	}
}

func TestExampleOfTheChapter(t *testing.T) {
	c := cursor.New([]byte{2, 'a', 'b', 7}, 0)
	wantState(t, c, 0, 4, api.OK)
	if s := c.Text(9); s != "ab" {
		t.Errorf("Text(9) = %q", s)
	}
	wantState(t, c, 3, 1, api.OK)
	if n := c.Number(); n != 7 {
		t.Errorf("Number() = %d", n)
	}
	wantState(t, c, 4, 0, api.OK)
	if n := c.Number(); n != 0 {
		t.Errorf("Number() = %d behind the end", n)
	}
	wantState(t, c, 4, 0, api.ErrShort)
	wantNothing(t, c)
}

func TestNewHoldsThePlaceAgainstTheBytes(t *testing.T) {
	for _, b := range []string{"", "\x00", "\x02ab\x07", strings.Repeat("x", 300)} {
		for at := 0; at <= len(b); at++ {
			wantState(t, cursor.New([]byte(b), at), at, len(b)-at, api.OK)
		}
		for _, at := range []int{-1, -2, -len(b) - 1, math.MinInt, math.MinInt + 1, len(b) + 1, len(b) + 2, math.MaxInt, math.MaxInt - 1} {
			c := cursor.New([]byte(b), at)
			wantState(t, c, 0, len(b), api.ErrArg)
			wantNothing(t, c)
		}
	}
}

func TestByteTakesEachByte(t *testing.T) {
	var all []byte
	for x := range 256 {
		all = append(all, byte(x))
	}
	for from := range 257 {
		c := cursor.New(all, from)
		for x := from; x < 256; x++ {
			if b := c.Byte(); int(b) != x {
				t.Errorf("Byte() = %d, want %d", b, x)
			}
			wantState(t, c, x+1, 255-x, api.OK)
		}
		if b := c.Byte(); b != 0 {
			t.Errorf("Byte() = %d behind the end", b)
		}
		wantState(t, c, 256, 0, api.ErrShort)
		wantNothing(t, c)
	}
}

func TestNumberTakesNumbers(t *testing.T) {
	numbers := []uint64{0, 1, 127, 128, 300, 1<<14 - 1, 1 << 14, 1 << 32, 1<<63 - 1, 1 << 63, math.MaxUint64}
	var b []byte
	for _, n := range numbers {
		b = varint.Put(b, n)
	}
	c, at := cursor.New(b, 0), 0
	for _, want := range numbers {
		if n := c.Number(); n != want {
			t.Errorf("Number() = %d, want %d", n, want)
		}
		at += varint.Size(want)
		wantState(t, c, at, len(b)-at, api.OK)
	}
}

func TestNumberTellsVarintsErrors(t *testing.T) {
	nine := strings.Repeat("\xff", 9)
	for _, x := range []struct {
		b    string
		want api.Errno
	}{
		{"", api.ErrShort},
		{"\x80", api.ErrShort},
		{nine, api.ErrShort},
		{"\x80\x00", api.ErrForm},
		{"\x80\x00\x01", api.ErrForm},
		{nine + "\x02", api.ErrForm},
		{nine + "\x81\x00", api.ErrForm},
	} {
		for _, head := range []string{"", "\x05", "\xff\xff"} {
			c := cursor.New([]byte(head+x.b), len(head))
			if n := c.Number(); n != 0 {
				t.Errorf("Number() of %q = %d", x.b, n)
			}
			wantState(t, c, len(head), len(x.b), x.want)
			wantNothing(t, c)
		}
	}
}

func TestTextHoldsToMost(t *testing.T) {
	b := blob.List(nil, "", "ab", strings.Repeat("x", 128))
	for _, x := range []struct {
		at, most int
		text     string
		behind   int
		want     api.Errno
	}{
		{0, 0, "", 1, api.OK},
		{0, -1, "", 1, api.OK},
		{0, math.MinInt, "", 1, api.OK},
		{0, math.MaxInt, "", 1, api.OK},
		{1, 2, "ab", 4, api.OK},
		{1, math.MaxInt, "ab", 4, api.OK},
		{1, 1, "", 1, api.ErrLimit},
		{1, 0, "", 1, api.ErrLimit},
		{1, -1, "", 1, api.ErrLimit},
		{1, math.MinInt, "", 1, api.ErrLimit},
		{4, 128, strings.Repeat("x", 128), 134, api.OK},
		{4, 127, "", 4, api.ErrLimit},
	} {
		c := cursor.New(b, x.at)
		if s := c.Text(x.most); s != x.text {
			t.Errorf("at %d Text(%d) = %q, want %q", x.at, x.most, s, x.text)
		}
		wantState(t, c, x.behind, len(b)-x.behind, x.want)
		if x.want != api.OK {
			wantNothing(t, c)
		}
	}
}

func TestTextTellsBlobsErrors(t *testing.T) {
	nine := strings.Repeat("\xff", 9)
	for _, x := range []struct {
		b    string
		most int
		want api.Errno
	}{
		{"", 9, api.ErrShort},
		{"", -1, api.ErrShort},
		{"\x80", 9, api.ErrShort},
		{"\x80\x00", 9, api.ErrForm},
		{nine + "\x02", 9, api.ErrForm},
		{nine + "\x02", -1, api.ErrForm},
		{"\x03ab", 9, api.ErrShort},
		{"\x03ab", 3, api.ErrShort},
		{"\x03ab", 2, api.ErrLimit},
		{nine + "\x01", math.MaxInt, api.ErrLimit},
		{"\xff\xff\xff\xff\xff\xff\xff\xff\x7f", math.MaxInt, api.ErrShort},
	} {
		for _, head := range []string{"", "\x05", "\xff\xff"} {
			c := cursor.New([]byte(head+x.b), len(head))
			if s := c.Text(x.most); s != "" {
				t.Errorf("Text(%d) of %q = %q", x.most, x.b, s)
			}
			wantState(t, c, len(head), len(x.b), x.want)
			wantNothing(t, c)
		}
	}
}

func TestNumbersTakesACountAndAsMany(t *testing.T) {
	ten := "\xff\xff\xff\xff\xff\xff\xff\xff\xff\x01"
	for _, x := range []struct {
		b      string
		most   int
		want   []uint64
		behind int
		e      api.Errno
	}{
		{"\x00", 0, nil, 1, api.OK},
		{"\x00", -1, nil, 1, api.OK},
		{"\x00", math.MinInt, nil, 1, api.OK},
		{"\x00\x09", 9, nil, 1, api.OK},
		{"\x01\x00", 1, []uint64{0}, 2, api.OK},
		{"\x03\x07\xac\x02\x00\x09", 3, []uint64{7, 300, 0}, 5, api.OK},
		{"\x03\x07\xac\x02\x00\x09", math.MaxInt, []uint64{7, 300, 0}, 5, api.OK},
		{"\x01" + ten, 2, []uint64{math.MaxUint64}, 11, api.OK},
		// The count is above most: it is taken, and nothing behind it, be that as it may.
		{"\x03\x07\xac\x02\x00\x09", 2, nil, 1, api.ErrLimit},
		{"\x01\x07", 0, nil, 1, api.ErrLimit},
		{"\x01\x07", -1, nil, 1, api.ErrLimit},
		{"\x01\x07", math.MinInt, nil, 1, api.ErrLimit},
		{"\x03", 2, nil, 1, api.ErrLimit},
		{"\x03\x80\x00", 2, nil, 1, api.ErrLimit},
		{ten + "\x07", math.MaxInt, nil, 10, api.ErrLimit},
		{ten, -1, nil, 10, api.ErrLimit},
		{"\x80\x80\x80\x80\x80\x80\x80\x80\x80\x01", math.MaxInt, nil, 10, api.ErrLimit},
		// The count itself can't be taken.
		{"", 9, nil, 0, api.ErrShort},
		{"\x83", 1, nil, 0, api.ErrShort},
		{"\x83\x00", 1, nil, 0, api.ErrForm},
		// One in the midst can't be taken: those ahead of it were.
		{"\x01", 1, nil, 1, api.ErrShort},
		{"\x03\x07\xac\x02", 3, nil, 4, api.ErrShort},
		{"\x03\x07\xac\x02\x80", 3, nil, 4, api.ErrShort},
		{"\x03\x07\x80\x00\x05", 3, nil, 2, api.ErrForm},
		{"\xff\xff\xff\xff\xff\xff\xff\xff\x7f\x01\x02", math.MaxInt, nil, 11, api.ErrShort},
	} {
		for _, head := range []string{"", "\x05", "\xff\xff"} {
			c := cursor.New([]byte(head+x.b), len(head))
			if l := c.Numbers(x.most); !slices.Equal(l, x.want) {
				t.Errorf("Numbers(%d) of %q = %v, want %v", x.most, x.b, l, x.want)
			}
			wantState(t, c, len(head)+x.behind, len(x.b)-x.behind, x.e)
			if x.e != api.OK {
				wantNothing(t, c)
			}
		}
	}
}

func TestTextsTakesACountAndAsMany(t *testing.T) {
	ten := "\xff\xff\xff\xff\xff\xff\xff\xff\xff\x01"
	for _, x := range []struct {
		b          string
		most, each int
		want       []string
		behind     int
		e          api.Errno
	}{
		{"\x00", 0, 0, nil, 1, api.OK},
		{"\x00", -1, -1, nil, 1, api.OK},
		{"\x00", math.MinInt, math.MinInt, nil, 1, api.OK},
		{"\x01\x00", 1, 0, []string{""}, 2, api.OK},
		{"\x01\x00", 1, math.MinInt, []string{""}, 2, api.OK},
		{"\x03\x02ab\x00\x01c\x09", 3, 2, []string{"ab", "", "c"}, 7, api.OK},
		{"\x03\x02ab\x00\x01c\x09", math.MaxInt, math.MaxInt, []string{"ab", "", "c"}, 7, api.OK},
		{"\x02\x01a\x01a", 2, 1, []string{"a", "a"}, 5, api.OK},
		// The count is above most: it is taken, and nothing behind it, be that as it may.
		{"\x03\x02ab\x00\x01c\x09", 2, 2, nil, 1, api.ErrLimit},
		{"\x01\x00", 0, 9, nil, 1, api.ErrLimit},
		{"\x01\x00", -1, 9, nil, 1, api.ErrLimit},
		{"\x03", 2, 9, nil, 1, api.ErrLimit},
		{"\x03\x80\x00", 2, 9, nil, 1, api.ErrLimit},
		{ten, math.MaxInt, math.MaxInt, nil, 10, api.ErrLimit},
		// The count itself can't be taken.
		{"", 9, 9, nil, 0, api.ErrShort},
		{"\x83", 1, 9, nil, 0, api.ErrShort},
		{"\x83\x00", 1, 9, nil, 0, api.ErrForm},
		// One in the midst can't be taken: those ahead of it were.
		{"\x01", 1, 9, nil, 1, api.ErrShort},
		{"\x02\x02ab", 2, 2, nil, 4, api.ErrShort},
		{"\x02\x01a\x02ab", 2, 1, nil, 3, api.ErrLimit},
		{"\x02\x02ab\x01a", 2, 1, nil, 1, api.ErrLimit},
		{"\x02\x01a\x02ab", 2, -1, nil, 1, api.ErrLimit},
		{"\x02\x01a\x02b", 2, 2, nil, 3, api.ErrShort},
		{"\x02\x01a\x82\x00b", 2, 2, nil, 3, api.ErrForm},
		{"\xff\xff\xff\xff\xff\xff\xff\xff\x7f\x00\x01a", math.MaxInt, 9, nil, 12, api.ErrShort},
	} {
		for _, head := range []string{"", "\x05", "\xff\xff"} {
			c := cursor.New([]byte(head+x.b), len(head))
			if l := c.Texts(x.most, x.each); !slices.Equal(l, x.want) {
				t.Errorf("Texts(%d, %d) of %q = %q, want %q", x.most, x.each, x.b, l, x.want)
			}
			wantState(t, c, len(head)+x.behind, len(x.b)-x.behind, x.e)
			if x.e != api.OK {
				wantNothing(t, c)
			}
		}
	}
}

func TestFailHoldsFromTheFirstErrorOn(t *testing.T) {
	for _, e := range failures {
		c := cursor.New([]byte{1, 1, 1, 1}, 1)
		c.Fail(api.OK)
		wantState(t, c, 1, 3, api.OK)
		if b := c.Byte(); b != 1 {
			t.Errorf("Byte() = %d behind Fail(OK)", b)
		}
		c.Fail(e)
		wantState(t, c, 2, 2, e)
		wantNothing(t, c)
	}
}

func TestBytesAreNotKept(t *testing.T) {
	given := []byte("\x02ab\x01\x07\x01\x01c\x05over")
	whole := given[:9]
	c := cursor.New(whole, 0)
	clear(given)
	if s := c.Text(9); s != "ab" {
		t.Errorf("Text(9) = %q behind a write into what was handed in", s)
	}
	numbers := c.Numbers(9)
	texts := c.Texts(9, 9)
	if b := c.Byte(); b != 5 {
		t.Errorf("Byte() = %d behind a write into what was handed in", b)
	}
	wantState(t, c, 9, 0, api.OK)
	if !slices.Equal(numbers, []uint64{7}) || !slices.Equal(texts, []string{"c"}) {
		t.Errorf("%v and %q behind a write into what was handed in", numbers, texts)
	}
	if b := c.Byte(); b != 0 {
		t.Errorf("Byte() = %d from the room behind the bytes", b)
	}
	wantState(t, c, 9, 0, api.ErrShort)
}

func TestBytesAreNotChanged(t *testing.T) {
	const text = "\x02ab\x02\x07\x08\x01\x01c\x05over"
	given := []byte(text)
	c := cursor.New(given[:10], 0)
	c.Text(9)
	c.Numbers(9)
	c.Texts(9, 9)
	c.Byte()
	c.Byte()
	if string(given) != text {
		t.Errorf("it wrote into what was handed in: %q", given)
	}
}

func TestRoomBehindIsNotSeen(t *testing.T) {
	room := []byte("\x01\x07\x01\x01c")
	for size := range room {
		bytes, numbers, texts := cursor.New(room[:size], size), cursor.New(room[:size], size), cursor.New(room[:size], size)
		bytes.Byte()
		wantState(t, bytes, size, 0, api.ErrShort)
		numbers.Numbers(9)
		wantState(t, numbers, size, 0, api.ErrShort)
		texts.Texts(9, 9)
		wantState(t, texts, size, 0, api.ErrShort)
	}
}

func TestAnswersShareNothing(t *testing.T) {
	b := []byte{2, 7, 8, 2, 9, 10}
	c, like := cursor.New(b, 0), cursor.New(b, 0)
	first := c.Numbers(9)
	for i := range first {
		first[i] = 99
	}
	first = append(first, 99)
	second := c.Numbers(9)
	if !slices.Equal(second, []uint64{9, 10}) || !slices.Equal(like.Numbers(9), []uint64{7, 8}) {
		t.Errorf("a write into an answer was seen")
	}
	second[0] = 77
	if !slices.Equal(first, []uint64{99, 99, 99}) {
		t.Errorf("an answer is written into later: %v", first)
	}
}

func TestNilIsAsEmpty(t *testing.T) {
	for _, b := range [][]byte{nil, {}} {
		wantState(t, cursor.New(b, 0), 0, 0, api.OK)
		wantState(t, cursor.New(b, 1), 0, 0, api.ErrArg)
		wantState(t, cursor.New(b, -1), 0, 0, api.ErrArg)
		c := cursor.New(b, 0)
		c.Byte()
		wantState(t, c, 0, 0, api.ErrShort)
		wantNothing(t, c)
	}
}

// told is a cursor in the words of the chapter, which doesn't ask the layers below.
type told struct {
	b      []byte
	at     int
	failed api.Errno
}

// number finds a number from a place on.
func (m *told) number(at int) (n uint64, next int, e api.Errno) {
	for i := 0; ; i++ {
		if at+i == len(m.b) {
			return 0, 0, api.ErrShort
		}
		x := m.b[at+i]
		if i == 9 && x > 1 || i > 0 && x == 0 {
			return 0, 0, api.ErrForm
		}
		for bit := range 7 {
			n |= uint64(x) >> bit & 1 << (7*i + bit)
		}
		if x < 128 {
			return n, at + i + 1, api.OK
		}
	}
}

// takeNumber takes a number.
func (m *told) takeNumber() uint64 {
	if m.failed != api.OK {
		return 0
	}
	n, next, e := m.number(m.at)
	if e != api.OK {
		m.failed = e
		return 0
	}
	m.at = next
	return n
}

// takeText takes a text.
func (m *told) takeText(most int) string {
	if m.failed != api.OK {
		return ""
	}
	n, next, e := m.number(m.at)
	if e == api.OK && (most < 0 && n > 0 || most >= 0 && n > uint64(most)) {
		e = api.ErrLimit
	}
	if e == api.OK && n > uint64(len(m.b)-next) {
		e = api.ErrShort
	}
	if e != api.OK {
		m.failed = e
		return ""
	}
	m.at = next + int(n)
	return string(m.b[next:m.at])
}

// takeByte takes a byte.
func (m *told) takeByte() byte {
	if m.failed != api.OK {
		return 0
	}
	if m.at == len(m.b) {
		m.failed = api.ErrShort
		return 0
	}
	m.at++
	return m.b[m.at-1]
}

// takeCount takes how many there are, of most.
func (m *told) takeCount(most int) uint64 {
	n := m.takeNumber()
	if most < 0 && n > 0 || most >= 0 && n > uint64(most) {
		m.failed = api.ErrLimit
		return 0
	}
	return n
}

// act does one thing with a cursor and with the told one, and tells whether they answered alike.
func act(c *cursor.Cursor, m *told, which, most, each int) bool {
	switch which {
	case 0:
		return c.Byte() == m.takeByte()
	case 1:
		return c.Number() == m.takeNumber()
	case 2:
		return c.Text(most) == m.takeText(most)
	case 3:
		var l []uint64
		for left := m.takeCount(most); left > 0 && m.failed == api.OK; left-- {
			l = append(l, m.takeNumber())
		}
		if m.failed != api.OK {
			l = nil
		}
		return slices.Equal(c.Numbers(most), l)
	default:
		var l []string
		for left := m.takeCount(most); left > 0 && m.failed == api.OK; left-- {
			l = append(l, m.takeText(each))
		}
		if m.failed != api.OK {
			l = nil
		}
		return slices.Equal(c.Texts(most, each), l)
	}
}

// small: bytes that look like chance; most are small, so that counts and lengths often fit.
func small(size int, x uint64) []byte {
	b := make([]byte, size)
	for i := range b {
		x = next(x)
		switch x >> 60 {
		case 0:
			b[i] = byte(x >> 40)
		case 1:
			b[i] = byte(x>>40) | 128
		default:
			b[i] = byte(x>>40) % 6
		}
	}
	return b
}

func TestEveryOrderOfCallsIsAsTold(t *testing.T) {
	mosts := []int{math.MinInt, -1, 0, 1, 2, 3, 5, 9, math.MaxInt, math.MaxInt}
	for round := range 20000 {
		x := next(uint64(round))
		b := small(int(x>>58), x)
		at := int(next(x)>>40) % (len(b) + 1)
		c, m := cursor.New(b, at), &told{b: b, at: at}
		for range 24 {
			x = next(x)
			before := c.At()
			if x>>57 == 0 {
				c.Fail(api.ErrSum)
				if m.failed == api.OK {
					m.failed = api.ErrSum
				}
			} else if !act(c, m, int(x>>33)%5, mosts[x>>40%10], mosts[x>>48%10]) {
				t.Fatalf("round %d, of %x: they answered unlike", round, b)
			}
			wantState(t, c, m.at, len(b)-m.at, m.failed)
			if c.At() < before || c.At() > len(b) {
				t.Fatalf("round %d, of %x: the place went from %d to %d", round, b, before, c.At())
			}
		}
	}
}
