package crc_test

import (
	"bytes"
	"math"
	"strings"
	"testing"

	"tephra/crc"
)

// knownSums: bytes with their sums, as they are told elsewhere.
var knownSums = []struct {
	text string
	sum  uint32
}{
	{"", 0},
	{"\x00", 0xd202ef8d},
	{"\xff", 0xff000000},
	{"a", 0xe8b7be43},
	{"ab", 0x9e83486d},
	{"abc", 0x352441c2},
	{"\x00\x00\x00\x00", 0x2144df1c},
	{"\xff\xff\xff\xff", 0xffffffff},
	{"123456789", 0xcbf43926},
	{"The quick brown fox jumps over the lazy dog", 0x414fa339},
	{strings.Repeat("\x00", 32), 0x190a55ad},
	{strings.Repeat("\xff", 32), 0xff6cab0b},
}

// next: a number that looks like chance, out of the one before.
func next(x uint64) uint64 {
	return x*6364136223846793005 + 1442695040888963407
}

// strewn: bytes that look like chance.
func strewn(size int, x uint64) []byte {
	b := make([]byte, size)
	for i := range b {
		x = next(x)
		b[i] = byte(x >> 40)
	}
	return b
}

// told: the sum bit by bit, in the words of the chapter.
func told(b []byte) uint32 {
	sum := uint32(0xffffffff)
	for _, x := range b {
		for bit := range 8 {
			unlike := sum&1 != uint32(x)>>bit&1
			sum >>= 1
			if unlike {
				sum ^= 0xedb88320
			}
		}
	}
	return ^sum
}

func TestSumsOfKnownBytes(t *testing.T) {
	for _, k := range knownSums {
		if sum := crc.Sum([]byte(k.text)); sum != k.sum {
			t.Errorf("Sum(%q) = %08x, want %08x", k.text, sum, k.sum)
		}
	}
}

func TestSumIsAsTold(t *testing.T) {
	for x := range 256 {
		for _, b := range [][]byte{{byte(x)}, {byte(x), 0}, {0, byte(x)}, {byte(x), 0xff, byte(x)}} {
			if sum := crc.Sum(b); sum != told(b) {
				t.Errorf("Sum(%x) = %08x, want %08x", b, sum, told(b))
			}
		}
	}
	for size := range 600 {
		b := strewn(size, uint64(size))
		if sum := crc.Sum(b); sum != told(b) {
			t.Errorf("Sum of %d bytes = %08x, want %08x", size, sum, told(b))
		}
	}
}

func TestSumTakesParts(t *testing.T) {
	if sum := crc.Sum(); sum != 0 {
		t.Errorf("Sum() = %08x", sum)
	}
	b := strewn(40, 3)
	want := crc.Sum(b)
	for first := range len(b) + 1 {
		for second := first; second <= len(b); second++ {
			parts := [][]byte{nil, b[:first], {}, b[first:second], b[second:], nil}
			if sum := crc.Sum(parts...); sum != want {
				t.Errorf("cut at %d and %d: %08x, want %08x", first, second, sum, want)
			}
		}
	}
	single := make([][]byte, len(b))
	for i := range b {
		single[i] = b[i : i+1]
	}
	if sum := crc.Sum(single...); sum != want {
		t.Errorf("byte by byte: %08x, want %08x", sum, want)
	}
	if crc.Sum([]byte("ab"), []byte("c")) == crc.Sum([]byte("c"), []byte("ab")) {
		t.Error("the parts' order isn't told")
	}
}

func TestBytesOfKnownSums(t *testing.T) {
	for _, x := range []struct {
		sum  uint32
		want string
	}{
		{0, "\x00\x00\x00\x00"},
		{1, "\x01\x00\x00\x00"},
		{0x100, "\x00\x01\x00\x00"},
		{0x10000, "\x00\x00\x01\x00"},
		{0x1000000, "\x00\x00\x00\x01"},
		{0xcbf43926, "\x26\x39\xf4\xcb"},
		{0x80000000, "\x00\x00\x00\x80"},
		{math.MaxUint32, "\xff\xff\xff\xff"},
	} {
		if b := crc.Bytes(x.sum); string(b) != x.want {
			t.Errorf("Bytes(%08x) = %x", x.sum, b)
		}
		if sum, ok := crc.Read([]byte(x.want), 0); sum != x.sum || !ok {
			t.Errorf("Read(%x, 0) = %08x %v", x.want, sum, ok)
		}
	}
}

func TestReadAtEachPlace(t *testing.T) {
	b := []byte("\x26\x39\xf4\xcb\x80\x01")
	for at, want := range []uint32{0xcbf43926, 0x80cbf439, 0x0180cbf4} {
		if sum, ok := crc.Read(b, at); sum != want || !ok {
			t.Errorf("Read(%x, %d) = %08x %v, want %08x", b, at, sum, ok, want)
		}
	}
	for _, at := range []int{math.MinInt, math.MinInt + 4, -5, -4, -1, 3, 4, 5, 6, 7, math.MaxInt32, math.MaxInt - 4, math.MaxInt - 3, math.MaxInt} {
		if sum, ok := crc.Read(b, at); sum != 0 || ok {
			t.Errorf("Read(%x, %d) = %08x %v", b, at, sum, ok)
		}
	}
}

// TestReadSeesNoRoom: what stands in the room behind a list isn't of the list.
func TestReadSeesNoRoom(t *testing.T) {
	room := []byte("\xff\xff\xff\xff\xff\xff")
	for size := range 4 {
		for at := -1; at <= 4; at++ {
			if sum, ok := crc.Read(room[:size], at); sum != 0 || ok {
				t.Errorf("of %d bytes at %d: %08x %v", size, at, sum, ok)
			}
		}
	}
}

func TestTakesNilAsEmpty(t *testing.T) {
	if sum := crc.Sum(nil, nil); sum != crc.Sum([]byte{}) {
		t.Errorf("Sum of nil: %08x", sum)
	}
	for at := -1; at <= 1; at++ {
		if sum, ok := crc.Read(nil, at); sum != 0 || ok {
			t.Errorf("Read(nil, %d) = %08x %v", at, sum, ok)
		}
	}
}

func TestSharesNothing(t *testing.T) {
	first, second := crc.Bytes(0xcbf43926), crc.Bytes(0xcbf43926)
	clear(first)
	if !bytes.Equal(second, []byte("\x26\x39\xf4\xcb")) {
		t.Errorf("two answers share memory: %x", second)
	}
	parts := [][]byte{[]byte("1234"), []byte("56789")}
	crc.Sum(parts...)
	crc.Read(parts[1], 1)
	if string(parts[0]) != "1234" || string(parts[1]) != "56789" {
		t.Errorf("what is handed in was changed: %q", parts)
	}
	if sum := crc.Sum(parts...); sum != 0xcbf43926 {
		t.Errorf("summed again: %08x", sum)
	}
}

func TestThereAndBack(t *testing.T) {
	x := uint64(1)
	for round := range 2000 {
		x = next(x)
		sum := uint32(x >> 20)
		head := strewn(round%7, x)
		b := append(bytes.Clone(head), crc.Bytes(sum)...)
		b = append(b, strewn(round%5, x)...)
		if back, ok := crc.Read(b, len(head)); back != sum || !ok {
			t.Errorf("Read(%x, %d) = %08x %v, want %08x", b, len(head), back, ok, sum)
		}
	}
}

// turned: the bytes with the bits of a pattern turned, from a bit on.
func turned(b []byte, from int, pattern uint32) []byte {
	out := bytes.Clone(b)
	for i := range 32 {
		if at := from + i; pattern>>i&1 == 1 && at < 8*len(b) {
			out[at/8] ^= 1 << (at % 8)
		}
	}
	return out
}

// holds: whether b is bytes with their sum's bytes behind.
func holds(b []byte) bool {
	sum, ok := crc.Read(b, len(b)-4)
	return ok && crc.Sum(b[:len(b)-4]) == sum
}

// wantTold: bytes with their sum behind hold, and no longer when the pattern's bits are turned, wherever.
func wantTold(t *testing.T, text []byte, pattern uint32) {
	t.Helper()
	b := append(bytes.Clone(text), crc.Bytes(crc.Sum(text))...)
	if !holds(b) {
		t.Fatalf("%x doesn't hold", b)
	}
	for from := range 8 * len(b) {
		if bad := turned(b, from, pattern|1); holds(bad) {
			t.Fatalf("%x holds as %x does, turned by %08x from bit %d on", bad, b, pattern|1, from)
		}
	}
}

func TestTurnedBitsAreTold(t *testing.T) {
	texts := [][]byte{nil, {0}, {0xff}, []byte("ab"), []byte("123456789"), make([]byte, 12), strewn(70, 5)}
	for _, text := range texts {
		for second := range 32 {
			wantTold(t, text, 1<<second)
			wantTold(t, text, math.MaxUint32>>second)
		}
		wantTold(t, text, 0xedb88320)
		wantTold(t, text, 0xdb710641)
		wantTold(t, text, 0x82608edb)
		wantTold(t, text, 0x04c11db7)
	}
}

func TestStrewnBitsAreTold(t *testing.T) {
	x := uint64(9)
	for round := range 3000 {
		x = next(x)
		wantTold(t, strewn(round%9, x), uint32(x>>30)>>(round%32))
	}
}
