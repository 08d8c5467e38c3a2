package varint_test

import (
	"bytes"
	"math"
	"strings"
	"testing"

	"tephra/api"
	"tephra/varint"
)

const maxNumber = math.MaxUint64

// knownBytes: numbers with their bytes, written out by hand.
var knownBytes = []struct {
	n uint64
	b string
}{
	{0, "\x00"},
	{1, "\x01"},
	{127, "\x7f"},
	{128, "\x80\x01"},
	{129, "\x81\x01"},
	{255, "\xff\x01"},
	{256, "\x80\x02"},
	{300, "\xac\x02"},
	{1<<14 - 1, "\xff\x7f"},
	{1 << 14, "\x80\x80\x01"},
	{1<<21 - 1, "\xff\xff\x7f"},
	{1 << 21, "\x80\x80\x80\x01"},
	{1<<32 - 1, "\xff\xff\xff\xff\x0f"},
	{1 << 32, "\x80\x80\x80\x80\x10"},
	{1<<63 - 1, "\xff\xff\xff\xff\xff\xff\xff\xff\x7f"},
	{1 << 63, "\x80\x80\x80\x80\x80\x80\x80\x80\x80\x01"},
	{maxNumber, "\xff\xff\xff\xff\xff\xff\xff\xff\xff\x01"},
}

// manyNumbers: each edge between two sizes and between two bits, with its neighbours, and numbers strewn over all sizes.
func manyNumbers() []uint64 {
	l := []uint64{0, 1, maxNumber}
	x := uint64(1)
	for bit := range 64 {
		edge := uint64(1) << bit
		l = append(l, edge-1, edge, edge+1)
		for range 8 {
			x = x*6364136223846793005 + 1442695040888963407
			l = append(l, x>>bit)
		}
	}
	return l
}

// sizeOf: how many bytes a number has, by the powers of 128 alone.
func sizeOf(n uint64) int {
	size := 1
	for n >= 128 {
		n /= 128
		size++
	}
	return size
}

func TestPutLaysKnownBytes(t *testing.T) {
	for _, k := range knownBytes {
		if b := varint.Put(nil, k.n); string(b) != k.b {
			t.Errorf("Put(nil, %d) = %x, want %x", k.n, b, k.b)
		}
	}
}

func TestPutLaysBehindWhatIsThere(t *testing.T) {
	for _, ahead := range []string{"", "\x00", "\x80", "\xff\xff\xff", strings.Repeat("a", 1000)} {
		for _, k := range knownBytes {
			if b := varint.Put([]byte(ahead), k.n); string(b) != ahead+k.b {
				t.Errorf("Put(%x, %d) = %x", ahead, k.n, b)
			}
		}
	}
}

func TestPutSharesNothing(t *testing.T) {
	room := []byte("abcdefghijklmnopqrstuvwxyz")
	first := varint.Put(room[:3], maxNumber)
	second := varint.Put(room[:3], 5)
	if string(room) != "abcdefghijklmnopqrstuvwxyz" {
		t.Errorf("what is handed in was written into: %q", room)
	}
	for i := range first {
		first[i] = 'X'
	}
	if string(room[:3]) != "abc" || string(second) != "abc\x05" {
		t.Errorf("an answer shares memory: %q %q", room, second)
	}
	third := varint.Put(room[:3], 6)
	room[0] = 'Y'
	if string(third) != "abc\x06" {
		t.Errorf("what is handed in was kept: %q", third)
	}
}

func TestSize(t *testing.T) {
	for _, k := range knownBytes {
		if size := varint.Size(k.n); size != len(k.b) {
			t.Errorf("Size(%d) = %d, want %d", k.n, size, len(k.b))
		}
	}
	for _, n := range manyNumbers() {
		if size := varint.Size(n); size != sizeOf(n) {
			t.Errorf("Size(%d) = %d, want %d", n, size, sizeOf(n))
		}
	}
}

func TestGetReadsKnownBytes(t *testing.T) {
	for _, k := range knownBytes {
		for _, ahead := range []string{"", "\x00", "\x80\x80"} {
			for _, behind := range []string{"", "\x00", "\xff", "\x01\x02"} {
				b := []byte(ahead + k.b + behind)
				n, next, e := varint.Get(b, len(ahead))
				if n != k.n || next != len(ahead)+len(k.b) || e != api.OK {
					t.Errorf("Get(%x, %d) = %d %d %d", b, len(ahead), n, next, e)
				}
				if string(b) != ahead+k.b+behind {
					t.Errorf("Get wrote into %x", b)
				}
			}
		}
	}
}

func TestGetTellsErrors(t *testing.T) {
	nine := strings.Repeat("\x80", 9)
	full := strings.Repeat("\xff", 9)
	for _, x := range []struct {
		b    string
		at   int
		want api.Errno
	}{
		{"\x01", -1, api.ErrArg},
		{"\x01", math.MinInt, api.ErrArg},
		{"\x01", 2, api.ErrArg},
		{"\x01", math.MaxInt, api.ErrArg},
		{"", 1, api.ErrArg},
		{"", -1, api.ErrArg},
		{"", 0, api.ErrShort},
		{"\x01", 1, api.ErrShort},
		{"\x80", 0, api.ErrShort},
		{"\x01\xff\xff", 1, api.ErrShort},
		{nine, 0, api.ErrShort},
		{full, 0, api.ErrShort},
		{"\x80\x00", 0, api.ErrForm},
		{"\x80\x00\x01", 0, api.ErrForm},
		{"\xff\x00", 0, api.ErrForm},
		{"\x80\x80\x00", 0, api.ErrForm},
		{"\x00\x80\x00", 1, api.ErrForm},
		{nine[1:] + "\x00", 0, api.ErrForm},
		{nine + "\x00", 0, api.ErrForm},
		{nine + "\x02", 0, api.ErrForm},
		{full + "\x02", 0, api.ErrForm},
		{nine + "\x7f", 0, api.ErrForm},
		{nine + "\x80", 0, api.ErrForm},
		{nine + "\x81", 0, api.ErrForm},
		{nine + "\x80\x00", 0, api.ErrForm},
		{nine + "\x81\x01", 0, api.ErrForm},
		{full + "\xff\xff\xff\xff", 0, api.ErrForm},
	} {
		n, next, e := varint.Get([]byte(x.b), x.at)
		if n != 0 || next != 0 || e != x.want {
			t.Errorf("Get(%x, %d) = %d %d %d, want 0 0 %d", x.b, x.at, n, next, e, x.want)
		}
	}
}

func TestGetTakesNilAsEmpty(t *testing.T) {
	for _, at := range []int{-1, 0, 1} {
		n, next, e := varint.Get(nil, at)
		m, behind, f := varint.Get([]byte{}, at)
		if n != m || next != behind || e != f {
			t.Errorf("at %d: %d %d %d and %d %d %d", at, n, next, e, m, behind, f)
		}
	}
	if b := varint.Put([]byte{}, 300); !bytes.Equal(b, varint.Put(nil, 300)) {
		t.Errorf("Put of the empty list: %x", b)
	}
}

func TestThereAndBack(t *testing.T) {
	for i, n := range manyNumbers() {
		ahead := strings.Repeat("\x80", i%5)
		b := varint.Put([]byte(ahead), n)
		if len(b) != len(ahead)+varint.Size(n) {
			t.Fatalf("%d has %d bytes, Size says %d", n, len(b)-len(ahead), varint.Size(n))
		}
		b = append(b, "\xff\x01"[:i%3]...)
		m, next, e := varint.Get(b, len(ahead))
		if m != n || next != len(ahead)+varint.Size(n) || e != api.OK {
			t.Fatalf("Put %d, Get %d, next %d, error %d", n, m, next, e)
		}
	}
}

func TestCutOffIsShort(t *testing.T) {
	for _, n := range manyNumbers() {
		b := varint.Put(nil, n)
		for size := range b {
			if m, next, e := varint.Get(b[:size], 0); m != 0 || next != 0 || e != api.ErrShort {
				t.Fatalf("%x, cut off at %d: %d %d %d", b, size, m, next, e)
			}
		}
	}
}

// holdOneWay: what is read of b at a place has just the bytes that were read, and is the sum of its groups.
func holdOneWay(t *testing.T, b []byte, at int) {
	t.Helper()
	n, next, e := varint.Get(b, at)
	if e != api.OK {
		if n != 0 || next != 0 {
			t.Fatalf("Get(%x, %d) = %d %d with the error %d", b, at, n, next, e)
		}
		return
	}
	if next <= at || next > len(b) {
		t.Fatalf("Get(%x, %d): next %d", b, at, next)
	}
	if again := varint.Put(nil, n); !bytes.Equal(again, b[at:next]) {
		t.Fatalf("Get(%x, %d) = %d, whose bytes are %x", b, at, n, again)
	}
	if size := varint.Size(n); size != next-at {
		t.Fatalf("Get(%x, %d) = %d, whose size is %d", b, at, n, size)
	}
}

func TestOneWayOfShortBytes(t *testing.T) {
	for first := range 256 {
		holdOneWay(t, []byte{byte(first)}, 0)
		for second := range 256 {
			b := []byte{byte(first), byte(second)}
			holdOneWay(t, b, 0)
			holdOneWay(t, b, 1)
			holdOneWay(t, append([]byte{0x80}, b...), 0)
		}
	}
}

func TestOneWayAtTheLongestEnd(t *testing.T) {
	for _, fill := range []string{"\x80", "\xff", "\xaa"} {
		for many := 7; many <= 10; many++ {
			for last := range 256 {
				b := []byte(strings.Repeat(fill, many) + string([]byte{byte(last)}) + "\x01\x00")
				holdOneWay(t, b, 0)
			}
		}
	}
}

// TestOneWayOfStrewnBytes: bytes that often go on and are often 0, for each length up to 12 and each place.
func TestOneWayOfStrewnBytes(t *testing.T) {
	signs := "\x00\x01\x02\x7f\x80\x80\x80\x81\xfe\xff\xff\xff"
	x := uint64(7)
	for round := range 20000 {
		b := make([]byte, round%13)
		for i := range b {
			x = x*6364136223846793005 + 1442695040888963407
			b[i] = signs[(x>>33)%uint64(len(signs))]
		}
		for at := -1; at <= len(b)+1; at++ {
			holdOneWay(t, b, at)
		}
	}
}
