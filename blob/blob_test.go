package blob_test

import (
	"bytes"
	"math"
	"slices"
	"strings"
	"testing"

	"tephra/api"
	"tephra/blob"
)

// knownBlobs: texts with their blobs' lengths, written out by hand.
var knownBlobs = []struct{ text, ahead string }{
	{"", "\x00"},
	{"a", "\x01"},
	{"ab", "\x02"},
	{"\x00", "\x01"},
	{"\xff\xfe", "\x02"},
	{"\x80\x01 over", "\x07"},
	{"näher", "\x06"},
	{strings.Repeat("b", 127), "\x7f"},
	{strings.Repeat("c", 128), "\x80\x01"},
	{strings.Repeat("d", 300), "\xac\x02"},
	{strings.Repeat("e", 1<<14-1), "\xff\x7f"},
	{strings.Repeat("f", 1<<14), "\x80\x80\x01"},
	{strings.Repeat("g", 1<<21-1), "\xff\xff\x7f"},
	{strings.Repeat("h", 1<<21), "\x80\x80\x80\x01"},
}

// heads: bytes that may stand ahead of a blob, and be of none.
var heads = []string{"", "\x00", "\x80", "\xff\xff\xff", "\x02ab"}

// short: a text, or, where it is long, what it begins with.
func short(s string) string {
	return s[:min(len(s), 12)]
}

// wantGet holds what Get answers against what is wanted.
func wantGet(t *testing.T, b string, at, most int, text string, behind int, want api.Errno) {
	t.Helper()
	given := []byte(b)
	s, next, e := blob.Get(given, at, most)
	if s != text || next != behind || e != want {
		t.Errorf("Get(%q, %d, %d) = %q (of %d) %d %d, want %q (of %d) %d %d", short(b), at, most, short(s), len(s), next, e, short(text), len(text), behind, want)
	}
	if string(given) != b {
		t.Errorf("Get(%q, %d, %d) wrote into what is handed in", short(b), at, most)
	}
}

func TestPutLaysKnownBlobs(t *testing.T) {
	for _, head := range heads {
		for _, k := range knownBlobs {
			if b := blob.Put([]byte(head), k.text); string(b) != head+k.ahead+k.text {
				t.Errorf("Put(%q, %q of %d) = %q of %d", head, short(k.text), len(k.text), short(string(b)), len(b))
			}
		}
	}
}

func TestListLaysAllInOrder(t *testing.T) {
	for _, x := range []struct {
		texts []string
		want  string
	}{
		{nil, ""},
		{[]string{}, ""},
		{[]string{""}, "\x00"},
		{[]string{"ab"}, "\x02ab"},
		{[]string{"", ""}, "\x00\x00"},
		{[]string{"ab", "", "c"}, "\x02ab\x00\x01c"},
		{[]string{"c", "", "ab"}, "\x01c\x00\x02ab"},
		{[]string{"a", "a", "\x00"}, "\x01a\x01a\x01\x00"},
		{[]string{strings.Repeat("x", 128), "y"}, "\x80\x01" + strings.Repeat("x", 128) + "\x01y"},
	} {
		for _, head := range heads {
			if b := blob.List([]byte(head), x.texts...); string(b) != head+x.want {
				t.Errorf("List(%q, %q) = %q", head, x.texts, b)
			}
		}
	}
}

func TestListIsPutOfEach(t *testing.T) {
	var texts []string
	var want []byte
	for _, k := range knownBlobs {
		texts = append(texts, k.text)
		want = blob.Put(want, k.text)
		if b := blob.List(nil, texts...); !bytes.Equal(b, want) {
			t.Errorf("List of %d texts has %d bytes, Put of each %d", len(texts), len(b), len(want))
		}
	}
	at := 0
	for _, text := range texts {
		s, next, e := blob.Get(want, at, len(text))
		if s != text || e != api.OK {
			t.Fatalf("at %d: %q of %d, error %d", at, short(s), len(s), e)
		}
		at = next
	}
	if at != len(want) {
		t.Errorf("the last place behind is %d of %d", at, len(want))
	}
}

func TestGetReadsKnownBlobs(t *testing.T) {
	for _, k := range knownBlobs {
		for _, head := range heads {
			for _, behind := range []string{"", "\x00", "\xff", "ab"} {
				b := head + k.ahead + k.text + behind
				next := len(b) - len(behind)
				wantGet(t, b, len(head), len(k.text), k.text, next, api.OK)
				wantGet(t, b, len(head), len(k.text)+1, k.text, next, api.OK)
				wantGet(t, b, len(head), math.MaxInt, k.text, next, api.OK)
			}
		}
	}
}

func TestGetHoldsToMost(t *testing.T) {
	for _, k := range knownBlobs {
		b := k.ahead + k.text
		for _, most := range []int{len(k.text) - 1, len(k.text) / 2, 0, -1, math.MinInt} {
			if max(most, 0) < len(k.text) {
				wantGet(t, b, 0, most, "", 0, api.ErrLimit)
			} else {
				wantGet(t, b, 0, most, k.text, len(b), api.OK)
			}
		}
	}
}

func TestGetTellsErrors(t *testing.T) {
	nine := strings.Repeat("\xff", 9)
	for _, x := range []struct {
		b        string
		at, most int
		want     api.Errno
	}{
		{"\x02ab", -1, 9, api.ErrArg},
		{"\x02ab", math.MinInt, 9, api.ErrArg},
		{"\x02ab", 4, 9, api.ErrArg},
		{"\x02ab", math.MaxInt, 9, api.ErrArg},
		{"\x02ab", 4, -1, api.ErrArg},
		{"", 1, 9, api.ErrArg},
		{"", -1, 9, api.ErrArg},
		{"", 0, 9, api.ErrShort},
		{"\x02ab", 3, 9, api.ErrShort},
		{"\x80", 0, 9, api.ErrShort},
		{"\x80", 0, -1, api.ErrShort},
		{"\x80\x00", 0, 9, api.ErrForm},
		{"\x82\x00ab", 0, 9, api.ErrForm},
		{"\x82\x00ab", 0, 0, api.ErrForm},
		{nine + "\x02", 0, 9, api.ErrForm},
		{nine + "\x81\x01", 0, math.MaxInt, api.ErrForm},
		{"\x02ab", 0, 1, api.ErrLimit},
		{"\x02a", 0, 1, api.ErrLimit},
		{"\x02", 0, 1, api.ErrLimit},
		{"\x01", 0, 0, api.ErrLimit},
		{"\x01a", 0, -1, api.ErrLimit},
		{nine + "\x01", 0, math.MaxInt, api.ErrLimit},
		{nine + "\x01", 0, -1, api.ErrLimit},
		{nine[1:] + "\x80\x01", 0, math.MaxInt, api.ErrLimit},
		{"\x80\x80\x80\x80\x80\x80\x80\x80\x80\x01", 0, math.MaxInt, api.ErrLimit},
		{nine[1:] + "\x7f", 0, math.MaxInt - 1, api.ErrLimit},
		{nine[1:] + "\x7f", 0, math.MaxInt, api.ErrShort},
		{nine[1:] + "\x7fab", 0, math.MaxInt, api.ErrShort},
		{"\x01", 0, 1, api.ErrShort},
		{"\x02a", 0, 2, api.ErrShort},
		{"\x02a", 0, math.MaxInt, api.ErrShort},
		{"\x00\x02a", 1, 2, api.ErrShort},
		{"\x80\x01" + strings.Repeat("a", 127), 0, 128, api.ErrShort},
	} {
		wantGet(t, x.b, x.at, x.most, "", 0, x.want)
	}
}

// TestGetSeesNoRoom: what stands in the room behind a list isn't of the list.
func TestGetSeesNoRoom(t *testing.T) {
	room := []byte("\x03abcd")
	for size := range 4 {
		if s, next, e := blob.Get(room[:size], 0, 9); s != "" || next != 0 || e != api.ErrShort {
			t.Errorf("of %d bytes: %q %d %d", size, s, next, e)
		}
	}
}

func TestSharesNothing(t *testing.T) {
	const all = "abcdefghijklmnopqrstuvwxyz"
	room := []byte(all)
	texts := []string{"one", "two"}
	for _, lay := range []func([]byte) []byte{
		func(b []byte) []byte { return blob.Put(b, "xyz") },
		func(b []byte) []byte { return blob.List(b, texts...) },
		func(b []byte) []byte { return blob.List(b) },
	} {
		first, second := lay(room[:3]), lay(room[:3])
		want := string(second)
		for i := range first {
			first[i] = 'X'
		}
		_ = append(first, "YYYYYYYY"...)
		if string(room) != all || string(second) != want {
			t.Errorf("an answer shares memory: %q %q", room, second)
		}
		room[0] = 'Z'
		if string(second) != want {
			t.Errorf("what is handed in was kept: %q", second)
		}
		room[0] = all[0]
	}
	if !slices.Equal(texts, []string{"one", "two"}) {
		t.Errorf("the texts were changed: %q", texts)
	}
	b := []byte("\x02ab")
	s, _, _ := blob.Get(b, 0, 2)
	b[1] = 'Z'
	if s != "ab" {
		t.Errorf("a text that was read changed: %q", s)
	}
}

func TestTakesNilAsEmpty(t *testing.T) {
	for _, at := range []int{-1, 0, 1} {
		s, next, e := blob.Get(nil, at, 9)
		wantGet(t, "", at, 9, s, next, e)
	}
	if b := blob.Put(nil, "ab"); !bytes.Equal(b, blob.Put([]byte{}, "ab")) {
		t.Errorf("Put behind nil: %q", b)
	}
	if b := blob.List(nil); len(b) != 0 {
		t.Errorf("List of nothing behind nil: %q", b)
	}
}

func TestThereAndBack(t *testing.T) {
	whole := strings.Repeat("\x00\x80text\xff\x01", 50)
	for size := range len(whole) {
		text := whole[size/2 : size/2+size/2]
		head := heads[size%len(heads)]
		b := blob.Put([]byte(head), text)
		next := len(b)
		b = append(b, "\xff\x01"[:size%3]...)
		wantGet(t, string(b), len(head), len(text), text, next, api.OK)
	}
}

func TestCutOffIsShort(t *testing.T) {
	for _, k := range knownBlobs[:10] {
		b := k.ahead + k.text
		for size := range b {
			wantGet(t, b[:size], 0, len(k.text), "", 0, api.ErrShort)
		}
	}
}

// holdOneWay: what is read of b at a place has just the bytes that were read.
func holdOneWay(t *testing.T, b []byte, at, most int) {
	t.Helper()
	s, next, e := blob.Get(b, at, most)
	if e != api.OK {
		if s != "" || next != 0 {
			t.Fatalf("Get(%q, %d, %d) = %q %d with the error %d", b, at, most, s, next, e)
		}
		return
	}
	if next <= at || next > len(b) || len(s) > max(most, 0) {
		t.Fatalf("Get(%q, %d, %d) = %q %d", b, at, most, s, next)
	}
	if again := blob.Put(nil, s); !bytes.Equal(again, b[at:next]) {
		t.Fatalf("Get(%q, %d, %d) = %q, whose blob is %q", b, at, most, s, again)
	}
}

func TestOneWayOfShortBytes(t *testing.T) {
	for first := range 256 {
		for second := range 256 {
			b := []byte{byte(first), byte(second), 'a', 0, 0x80}
			for at := -1; at <= len(b)+1; at++ {
				holdOneWay(t, b, at, math.MaxInt)
			}
		}
	}
}

// TestOneWayOfStrewnBytes: bytes that are often small lengths and often go on, for each length up to 16, each place, and what is most.
func TestOneWayOfStrewnBytes(t *testing.T) {
	signs := "\x00\x00\x01\x01\x02\x03\x05\x09\x80\x81\xff"
	x := uint64(7)
	for round := range 20000 {
		b := make([]byte, round%17)
		for i := range b {
			x = x*6364136223846793005 + 1442695040888963407
			b[i] = signs[(x>>33)%uint64(len(signs))]
		}
		for at := -1; at <= len(b)+1; at++ {
			holdOneWay(t, b, at, round%7-1)
		}
	}
}
