package digest_test

import (
	"math"
	"math/big"
	"slices"
	"strconv"
	"strings"
	"testing"

	"tephra/digest"
)

// knownDigests: numbers with their digests, reckoned elsewhere.
var knownDigests = []struct{ n, h uint64 }{
	{0x0000000000000000, 0xe220a8397b1dcdaf},
	{0x0000000000000001, 0x910a2dec89025cc1},
	{0x0000000000000002, 0x975835de1c9756ce},
	{0x0000000000000003, 0x1d0b14e4db018fed},
	{0x00000000000000ff, 0x338c507146283fb4},
	{0x0000000000000100, 0x6602d201e324653f},
	{0x000000000000012c, 0x2fb54c54d1eb0392},
	{1234567, 6457827717110365317},
	{0x0000000100000000, 0xc42c5a1aa3820138},
	{0x7fffffffffffffff, 0x2a67d7552e039ea7},
	{0x8000000000000000, 0x481ec0a212a9f3db},
	{0xffffffffffffffff, 0xe4d971771b652c20},
	{0xfffffffffffffffe, 0xf3203e9039f4a821},
	{0x9e3779b97f4a7c15, 0x6e789e6aa1b965f4},
	{0x61c8864680b583eb, 0x0000000000000000},
	{0xe220a8397b1dcdaf, 0xa706dd2f4d197e6f},
	{0x0123456789abcdef, 0x157a3807a48faa9d},
}

// next: a number that looks like chance, out of the one before.
func next(x uint64) uint64 {
	return x*6364136223846793005 + 1442695040888963407
}

// samples: small and great numbers, such with few bits, and some that look like chance.
func samples() []uint64 {
	var all []uint64
	for n := range uint64(1000) {
		all = append(all, n, math.MaxUint64-n)
	}
	for i := range 64 {
		for j := range i {
			all = append(all, 1<<i|1<<j, ^uint64(1<<i|1<<j), 1<<i-1<<j)
		}
	}
	x := uint64(1)
	for range 10000 {
		x = next(x)
		all = append(all, x)
	}
	for _, k := range knownDigests {
		all = append(all, k.n, k.h)
	}
	slices.Sort(all)
	return slices.Compact(all)
}

// number: a number out of its digits, without bounds.
func number(hex string) *big.Int {
	n, _ := new(big.Int).SetString(hex, 16)
	return n
}

// told: the digest in the words of the chapter, reckoned in numbers without bounds of which what is beyond 64 bits is dropped.
func told(n uint64) uint64 {
	bound := new(big.Int).Lsh(big.NewInt(1), 64)
	h := new(big.Int).SetUint64(n)
	h.Mod(h.Add(h, number("9e3779b97f4a7c15")), bound)
	h.Xor(h, new(big.Int).Rsh(h, 30))
	h.Mod(h.Mul(h, number("bf58476d1ce4e5b9")), bound)
	h.Xor(h, new(big.Int).Rsh(h, 27))
	h.Mod(h.Mul(h, number("94d049bb133111eb")), bound)
	h.Xor(h, new(big.Int).Rsh(h, 31))
	return h.Uint64()
}

func TestKnownDigests(t *testing.T) {
	for _, k := range knownDigests {
		if h := digest.Of(k.n); h != k.h {
			t.Errorf("Of(%x) = %016x, want %016x", k.n, h, k.h)
		}
		if n := digest.Back(k.h); n != k.n {
			t.Errorf("Back(%x) = %016x, want %016x", k.h, n, k.n)
		}
	}
}

func TestDigestIsAsTold(t *testing.T) {
	for _, n := range samples() {
		if h := digest.Of(n); h != told(n) {
			t.Errorf("Of(%x) = %016x, want %016x", n, h, told(n))
		}
	}
}

func TestOneToOne(t *testing.T) {
	owner := map[uint64]uint64{}
	for _, n := range samples() {
		h := digest.Of(n)
		if other, had := owner[h]; had {
			t.Errorf("%x and %x have one digest, %016x", n, other, h)
		}
		owner[h] = n
		if back := digest.Back(h); back != n {
			t.Errorf("Back(Of(%x)) = %x", n, back)
		}
		if there := digest.Of(digest.Back(n)); there != n {
			t.Errorf("Of(Back(%x)) = %x", n, there)
		}
	}
}

func TestKnownFolds(t *testing.T) {
	for _, x := range []struct {
		n    uint64
		row  []uint64
		want uint64
	}{
		{0, nil, 0xe220a8397b1dcdaf},
		{0, []uint64{}, 0xe220a8397b1dcdaf},
		{0, []uint64{0}, 0xa706dd2f4d197e6f},
		{0, []uint64{0, 0}, 0x238275bc38fcbe91},
		{1, []uint64{2}, 0xbcd9dbb49673066b},
		{2, []uint64{1}, 0xe06dd043328bd285},
		{1, []uint64{2, 3}, 0xd0734750fde362b3},
		{1, []uint64{3, 2}, 0x8f3ed33abd58deb9},
		{7, []uint64{math.MaxUint64}, 0xa9a96b699dc41760},
		{0, []uint64{0xe220a8397b1dcdaf}, 0xe220a8397b1dcdaf},
		{math.MaxUint64, []uint64{math.MaxUint64, 0, 1 << 63}, 0xd3ccfff297549919},
	} {
		if h := digest.Fold(x.n, x.row...); h != x.want {
			t.Errorf("Fold(%x, %x) = %016x, want %016x", x.n, x.row, h, x.want)
		}
	}
}

func TestFoldGoesOverTheRowInOrder(t *testing.T) {
	for size := range 100 {
		row := make([]uint64, size)
		x := uint64(size)
		want := told(x)
		for i := range row {
			x = next(x)
			row[i] = x
			want = told(want ^ x)
		}
		if h := digest.Fold(uint64(size), row...); h != want {
			t.Errorf("Fold of %d numbers = %016x, want %016x", size, h, want)
		}
	}
}

func TestFoldLeavesTheRowAlone(t *testing.T) {
	room := []uint64{1, 2, 3, 4, 5}
	want := digest.Fold(9, 1, 2, 3)
	if h := digest.Fold(9, room[:3]...); h != want {
		t.Errorf("Fold of a row with room behind it = %016x, want %016x", h, want)
	}
	if !slices.Equal(room, []uint64{1, 2, 3, 4, 5}) {
		t.Errorf("Fold wrote into what is handed in: %v", room)
	}
}

func TestKnownDigits(t *testing.T) {
	for _, x := range []struct {
		h   uint64
		hex string
	}{
		{0, "0000000000000000"},
		{1, "0000000000000001"},
		{10, "000000000000000a"},
		{15, "000000000000000f"},
		{16, "0000000000000010"},
		{300, "000000000000012c"},
		{0x0123456789abcdef, "0123456789abcdef"},
		{0xfedcba9876543210, "fedcba9876543210"},
		{1 << 63, "8000000000000000"},
		{math.MaxInt64, "7fffffffffffffff"},
		{math.MaxUint64, "ffffffffffffffff"},
		{0xe220a8397b1dcdaf, "e220a8397b1dcdaf"},
	} {
		if s := digest.Hex(x.h); s != x.hex {
			t.Errorf("Hex(%x) = %q, want %q", x.h, s, x.hex)
		}
		if h, ok := digest.Read(x.hex); h != x.h || !ok {
			t.Errorf("Read(%q) = %x %v, want %x", x.hex, h, ok, x.h)
		}
	}
}

func TestDigitsThereAndBack(t *testing.T) {
	for _, n := range samples() {
		s := digest.Hex(n)
		told := strconv.FormatUint(n, 16)
		if want := strings.Repeat("0", 16-len(told)) + told; s != want {
			t.Errorf("Hex(%x) = %q, want %q", n, s, want)
		}
		if h, ok := digest.Read(s); h != n || !ok {
			t.Errorf("Read(%q) = %x %v, want %x", s, h, ok, n)
		}
	}
}

// wantNoNumber holds Read against a text that isn't 16 digits.
func wantNoNumber(t *testing.T, s string) {
	t.Helper()
	if h, ok := digest.Read(s); h != 0 || ok {
		t.Errorf("Read(%q) = %x %v, want 0 false", s, h, ok)
	}
}

func TestReadWantsSixteen(t *testing.T) {
	for size := range 40 {
		if size != 16 {
			wantNoNumber(t, strings.Repeat("0", size))
			wantNoNumber(t, strings.Repeat("f", size))
		}
	}
	for _, s := range []string{
		"0x0123456789abcd", "0x0123456789abcdef", "+123456789abcdef", "-123456789abcdef", " 123456789abcdef", "123456789abcdef ",
		"0123456789abcdef\n", "0123456789abcde\x00", "0123456789abcdeF", "0123456789ABCDEF", "0123_456789abcde", "0123456789abcdeg",
		"0123456789abcdé", "éééééééé", "００００００００００００００００", "0000000000000000\x00", strings.Repeat("0", 1<<16) + "1",
	} {
		wantNoNumber(t, s)
	}
}

func TestReadWantsDigitsAtEveryPlace(t *testing.T) {
	for at := range 16 {
		for x := range 256 {
			s := []byte("fedcba9876543210")
			s[at] = byte(x)
			if !strings.Contains("0123456789abcdef", string(s[at:at+1])) {
				wantNoNumber(t, string(s))
				continue
			}
			h, ok := digest.Read(string(s))
			if want, _ := strconv.ParseUint(string(s), 16, 64); h != want || !ok {
				t.Errorf("Read(%q) = %x %v, want %x", s, h, ok, want)
			}
		}
	}
}
