package codec_test

import (
	"bytes"
	"math"
	"slices"
	"strconv"
	"strings"
	"testing"

	"tephra/api"
	"tephra/codec"
	"tephra/crc"
	"tephra/frame"
	"tephra/intern"
	"tephra/record"
	"tephra/schema"
)

// long: a text of that many bytes.
func long(size int) string {
	return strings.Repeat("x", size)
}

// gone: the record that a target is.
func gone(target string) api.Record {
	return api.Record{Kind: api.Gone, Target: target}
}

// full: as much as may be in a trace at a version.
func full(version int) api.Record {
	r := api.Record{Kind: api.Trace, Target: long(64), Rule: math.MaxUint64, Out: math.MaxUint64}
	for i := range 16 {
		r.Deps = append(r.Deps, api.Dep{Name: long(62) + strconv.Itoa(10+i), Hash: math.MaxUint64, Order: version == 3 && i%2 == 0})
	}
	if version >= 2 {
		r.When = math.MaxUint64
	}
	if version >= 3 {
		r.Tag = long(63)
	}
	return r
}

// records: some that may be at a version, of which the first ones share texts, and one stands twice.
func records(version int) []api.Record {
	l := []api.Record{
		{Kind: api.Trace, Target: "a", Rule: 300, Deps: []api.Dep{{Name: "b", Hash: 5}, {Name: "c", Hash: 1 << 63}}, Out: 7},
		{Kind: api.Trace, Target: "b", Rule: 1, Deps: []api.Dep{{Name: "c"}}, Out: 9},
		gone("a"),
		gone("a"),
		{Kind: api.Trace, Target: "c"},
		gone("\x00"),
		full(version),
		{Kind: api.Trace, Target: "TPH", Deps: []api.Dep{{Name: "\xff"}, {Name: "a"}}},
	}
	if version >= 2 {
		l[1].When = 77
		l[7].When = 128
	}
	if version >= 3 {
		l[0].Tag = "b"
		l[1].Tag = "t"
		l[7].Tag = "t"
		l[7].Deps[1].Order = true
	}
	return l
}

// told: a file, frame by frame, in the words of the chapter; behind each of its frames' places, which record it is of.
func told(t *testing.T, version int, l []api.Record) (b []byte, ends, of []int) {
	t.Helper()
	b, e := frame.Head(version)
	if e != api.OK {
		t.Fatal(e)
	}
	table := intern.New()
	for i, r := range l {
		payloads, e := schema.Put(version, table, r)
		if e != api.OK {
			t.Fatal(version, i, e)
		}
		for _, p := range payloads {
			b, e = frame.Put(b, p)
			if e != api.OK {
				t.Fatal(version, i, e)
			}
			ends = append(ends, len(b))
			of = append(of, i)
		}
	}
	return b, ends, of
}

// lastEnds: of each record the place behind its last frame.
func lastEnds(ends, of []int) []int {
	l := []int{}
	for i, end := range ends {
		if i+1 == len(of) || of[i+1] != of[i] {
			l = append(l, end)
		}
	}
	return l
}

// wantRead holds what is read of bytes against the first records of a list, and where they end.
func wantRead(t *testing.T, what string, version int, b []byte, l []api.Record, ends []int, size int) {
	t.Helper()
	f, e := codec.Get(b)
	good := 8
	if size > 0 {
		good = ends[size-1]
	}
	if e != api.OK || f.Version != version || f.Good != good || !slices.Equal(f.Ends, ends[:size]) || !slices.EqualFunc(f.Records, l[:size], record.Same) {
		t.Fatalf("%d, %s: Get = %d %v %d %v %d, want %d records", version, what, f.Version, f.Ends, f.Good, f.Records, e, size)
	}
}

func TestNoRecords(t *testing.T) {
	for version := 1; version <= 3; version++ {
		head, _ := frame.Head(version)
		for _, l := range [][]api.Record{nil, {}} {
			b, e := codec.Put(version, l)
			if e != api.OK || len(b) != 8 || !bytes.Equal(b, head) {
				t.Errorf("%d: Put = %q %d", version, b, e)
			}
			wantRead(t, "no records", version, b, nil, nil, 0)
		}
	}
}

// TestFileOfTheChapter: files whose bytes are written out, but for the sums.
func TestFileOfTheChapter(t *testing.T) {
	summed := func(parts ...string) []byte {
		b := []byte{}
		for _, s := range parts {
			b = append(append(b, s...), crc.Bytes(crc.Sum([]byte(s)))...)
		}
		return b
	}
	two := []api.Record{{Kind: api.Trace, Target: "a", Rule: 9, Deps: []api.Dep{{Name: "b", Hash: 2}}, Out: 4}, gone("b")}
	for i, x := range []struct {
		version int
		l       []api.Record
		want    []byte
		ends    []int
	}{
		{1, []api.Record{gone("a")}, summed("TPH\x01", "\x03\x02\x01a"), []int{16}},
		{2, []api.Record{gone("a")}, summed("TPH\x02", "\x02\x00a", "\x02\x02\x00"), []int{22}},
		{3, []api.Record{gone("a"), gone("a")}, summed("TPH\x03", "\x02\x00a", "\x02\x02\x00", "\x02\x02\x00"), []int{22, 29}},
		{1, two, summed("TPH\x01", "\x09\x01\x01a\x09\x01\x01b\x02\x04", "\x03\x02\x01b"), []int{22, 30}},
		{2, two, summed("TPH\x02", "\x02\x00a", "\x02\x00b", "\x08\x01\x00\x09\x01\x01\x02\x04\x00", "\x02\x02\x01"), []int{35, 42}},
		{3, two, summed("TPH\x03", "\x02\x00a", "\x02\x00b", "\x09\x01\x00\x09\x01\x02\x02\x04\x00\x00", "\x02\x02\x01"), []int{36, 43}},
	} {
		b, e := codec.Put(x.version, x.l)
		if e != api.OK || !bytes.Equal(b, x.want) {
			t.Errorf("%d: Put = %q %d, want %q", i, b, e, x.want)
		}
		wantRead(t, "written out", x.version, x.want, x.l, x.ends, len(x.l))
	}
}

func TestThereAndBack(t *testing.T) {
	for version := 1; version <= 3; version++ {
		l := records(version)
		for size := range len(l) + 1 {
			want, ends, of := told(t, version, l[:size])
			b, e := codec.Put(version, l[:size])
			if e != api.OK || !bytes.Equal(b, want) {
				t.Fatalf("%d: of %d records Put = %q %d, want %q", version, size, b, e, want)
			}
			wantRead(t, "all", version, b, l, lastEnds(ends, of), size)
		}
	}
}

// TestManyRecords: texts' numbers of one byte and of two, and records that name what came long ahead.
func TestManyRecords(t *testing.T) {
	for version := 1; version <= 3; version++ {
		l := []api.Record{}
		for i := range 3000 {
			l = append(l, api.Record{Kind: api.Trace, Target: "t" + strconv.Itoa(i%700), Out: uint64(i), Deps: []api.Dep{{Name: "d" + strconv.Itoa(i%900)}}})
		}
		want, ends, of := told(t, version, l)
		b, e := codec.Put(version, l)
		if e != api.OK || !bytes.Equal(b, want) {
			t.Fatalf("%d: Put of many has %d bytes, want %d; %d", version, len(b), len(want), e)
		}
		wantRead(t, "many", version, b, l, lastEnds(ends, of), len(l))
	}
}

func TestPutRefuses(t *testing.T) {
	may := gone("a")
	mayNot := []api.Record{{}, gone(""), gone(long(65)), {Kind: 3, Target: "a"}, {Kind: api.Gone, Target: "a", Out: 1}, {Kind: api.Trace, Target: "a", Deps: []api.Dep{{Name: "a"}}}, {Kind: api.Trace, Target: "a", Tag: long(65)}}
	for _, version := range []int{0, -1, 4, 257, 1<<32 + 1, math.MaxInt, math.MinInt} {
		for _, l := range [][]api.Record{nil, {may}, {mayNot[0]}, {may, mayNot[1]}} {
			if b, e := codec.Put(version, l); e != api.ErrVersion || len(b) != 0 {
				t.Errorf("Put(%d, %v) = %q %d", version, l, b, e)
			}
		}
	}
	for version := 1; version <= 3; version++ {
		bad := slices.Clone(mayNot)
		if version < 3 {
			bad = append(bad, api.Record{Kind: api.Trace, Target: "a", Tag: "t"}, api.Record{Kind: api.Trace, Target: "a", Deps: []api.Dep{{Name: "b", Order: true}}})
		}
		if version < 2 {
			bad = append(bad, api.Record{Kind: api.Trace, Target: "a", When: 1})
		}
		for _, r := range bad {
			for _, l := range [][]api.Record{{r}, {r, may}, {may, r}, {may, r, may}, {may, may, r}} {
				if b, e := codec.Put(version, l); e != api.ErrArg || len(b) != 0 {
					t.Errorf("Put(%d, %v) = %q %d", version, l, b, e)
				}
			}
		}
	}
}

func TestGetRefuses(t *testing.T) {
	four := []byte("TPH\x04")
	none := append(four, crc.Bytes(crc.Sum(four))...)
	file, _ := codec.Put(2, []api.Record{gone("a")})
	turned := func(at int) []byte {
		b := slices.Clone(file)
		b[at] ^= 1
		return b
	}
	for i, x := range []struct {
		b    []byte
		want api.Errno
	}{
		{nil, api.ErrShort}, {[]byte{}, api.ErrShort}, {file[:1], api.ErrShort}, {file[:7], api.ErrShort}, {[]byte("1234567"), api.ErrShort},
		{turned(0), api.ErrForm}, {turned(1), api.ErrForm}, {turned(2), api.ErrForm}, {[]byte(long(99)), api.ErrForm},
		{turned(3), api.ErrSum}, {turned(4), api.ErrSum}, {turned(7), api.ErrSum},
		{none, api.ErrVersion}, {append(none, file[8:]...), api.ErrVersion},
	} {
		f, e := codec.Get(x.b)
		if e != x.want || f.Version != 0 || len(f.Records) != 0 || len(f.Ends) != 0 || f.Good != 0 {
			t.Errorf("%d: Get = %v %d, want %d", i, f, e, x.want)
		}
	}
}

func TestCutOff(t *testing.T) {
	for version := 1; version <= 3; version++ {
		l := records(version)
		b, ends, of := told(t, version, l)
		last := lastEnds(ends, of)
		whole := 0
		for size := 8; size <= len(b); size++ {
			for whole < len(last) && last[whole] <= size {
				whole++
			}
			wantRead(t, "cut off at "+strconv.Itoa(size), version, b[:size], l, last, whole)
		}
		if whole != len(l) {
			t.Errorf("%d: %d records are whole, of %d", version, whole, len(l))
		}
		for size := range 8 {
			if f, e := codec.Get(b[:size]); e != api.ErrShort || f.Good != 0 || len(f.Records) != 0 {
				t.Errorf("%d: cut off at %d, Get = %v %d", version, size, f, e)
			}
		}
	}
}

// lengthSize: how many bytes the length has, with which bytes begin.
func lengthSize(b []byte) int {
	size := 1
	for b[size-1] >= 128 {
		size++
	}
	return size
}

// turn: bytes, of which those bits are turned that the pattern has, from a bit on.
func turn(b []byte, bit int, pattern uint32) []byte {
	other := slices.Clone(b)
	for i := range 32 {
		if pattern>>i&1 == 1 {
			other[(bit+i)/8] ^= 1 << ((bit + i) % 8)
		}
	}
	return other
}

func TestTurned(t *testing.T) {
	x := uint64(3)
	for version := 1; version <= 3; version++ {
		l := records(version)
		b, ends, of := told(t, version, l)
		last := lastEnds(ends, of)
		from := 8
		for i, end := range ends {
			first := 8 * (from + lengthSize(b[from:]))
			for bit := first; bit < 8*end; bit++ {
				x = x*6364136223846793005 + 1442695040888963407
				for _, pattern := range []uint32{1, uint32(x>>32) | 1} {
					// Bits behind the frame's end aren't of it.
					if room := 8*end - bit; room < 32 {
						pattern &= 1<<room - 1
					}
					wantRead(t, "turned at the bit "+strconv.Itoa(bit), version, turn(b, bit, pattern), l, last, of[i])
				}
			}
			from = end
		}
	}
}

// behind: a file, and frames of payloads behind it.
func behind(t *testing.T, b []byte, payloads ...string) []byte {
	t.Helper()
	for _, p := range payloads {
		more, e := frame.Put(b, []byte(p))
		if e != api.OK {
			t.Fatal(e)
		}
		b = more
	}
	return b
}

// TestWhatStandsBehind: frames that are whole, but no record's, end what is read, and records behind them aren't.
func TestWhatStandsBehind(t *testing.T) {
	for version := 1; version <= 3; version++ {
		l := []api.Record{gone("a"), gone("b")}
		b, ends, of := told(t, version, l)
		last := lastEnds(ends, of)
		good := []string{"\x02\x00"}
		if version == 1 {
			good = []string{"\x02\x01a"}
		}
		wantRead(t, "a third one", version, behind(t, b, good...), append(slices.Clone(l), gone("a")), append(slices.Clone(last), len(behind(t, b, good...))), 3)
		for _, payloads := range [][]string{
			{"\x00c"}, {"\x00c", "\x00d"}, {"\x00"}, {"\x00a"}, {"\x02"}, {"\x02\x02"}, {"\x02\x00\x00"}, {"\x03\x00"}, {"\x01\x00\x00\x00\x00"}, {"TPH"}, {long(2048)}, {"\x00" + long(2047)},
			{"\x00c", "\x02\x00"}, {"\x00a", "\x02\x00"}, {"\x00c", "\x00c", "\x02\x02"}, {"\x00", "\x02\x02"}, {"\x02\x80\x00"},
		} {
			wantRead(t, "no record behind", version, behind(t, b, payloads...), l, last, 2)
			wantRead(t, "no record behind, and one", version, behind(t, behind(t, b, payloads...), append(payloads, good...)...), l, last, 2)
		}
		for _, tail := range []string{"\x00", "\x01", "\x00\x00\x00\x00\x00", "\x81\x10", "\xff\xff\xff\xff\xff\xff\xff\xff\xff\xff", "TPH\x01", long(9)} {
			wantRead(t, "no frame behind", version, append(slices.Clone(b), tail...), l, last, 2)
			wantRead(t, "no frame behind, and one", version, behind(t, append(slices.Clone(b), tail...), good...), l, last, 2)
		}
	}
}

// TestOtherVersion: frames of a version behind another one's head.
func TestOtherVersion(t *testing.T) {
	l := []api.Record{{Kind: api.Trace, Target: "a", Deps: []api.Dep{{Name: "b"}}}}
	for version := 1; version <= 3; version++ {
		for other := 1; other <= 3; other++ {
			b, ends, of := told(t, version, l)
			head, _ := frame.Head(other)
			size := 0
			if version == other {
				size = 1
			}
			wantRead(t, "frames of the version "+strconv.Itoa(version), other, append(head, b[8:]...), l, lastEnds(ends, of), size)
		}
	}
}

// TestOneWay: files of frames that are put together of such as are often a record's, and often nearly: the file of what is read is what was read.
func TestOneWay(t *testing.T) {
	x := uint64(4)
	pick := func(n uint64) int {
		x = x*6364136223846793005 + 1442695040888963407
		return int(x >> 33 % n)
	}
	counts := map[int]int{}
	for range 60000 {
		version := 1 + pick(3)
		b, _ := frame.Head(version)
		for range pick(9) {
			p := []byte{byte(pick(3)), byte(pick(3))}
			if version == 1 && pick(2) == 0 {
				p = []byte{2, 1, byte(pick(3))}
			}
			if p[0] == 1 {
				p = append(p, make([]byte, version+2)...)
			}
			if pick(9) == 0 {
				p = append(p, byte(pick(3)))
			}
			b, _ = frame.Put(b, p)
		}
		b = append(b, make([]byte, pick(3)*pick(2))...)
		f, e := codec.Get(b)
		if e != api.OK || f.Version != version || len(f.Ends) != len(f.Records) || f.Good < 8 || f.Good > len(b) {
			t.Fatalf("Get(%q) = %v %d", b, f, e)
		}
		if again, e := codec.Put(version, f.Records); e != api.OK || !bytes.Equal(again, b[:f.Good]) {
			t.Fatalf("Get(%q) = %v, whose file is %q %d", b, f, again, e)
		}
		for i, end := range f.Ends {
			if first, e := codec.Put(version, f.Records[:i+1]); e != api.OK || len(first) != end {
				t.Fatalf("Get(%q) = %v, whose record %d ends at %d", b, f, i, len(first))
			}
		}
		counts[version*10+len(f.Records)]++
	}
	for version := 1; version <= 3; version++ {
		for size := range 4 {
			if n := counts[version*10+size]; n < 30 {
				t.Errorf("%d: of %d records only %d files were read", version, size, n)
			}
		}
	}
}

// TestOneWayOfTurnedBytes: each byte of a file is made some others.
func TestOneWayOfTurnedBytes(t *testing.T) {
	for version := 1; version <= 3; version++ {
		b, _, _ := told(t, version, records(version)[:6])
		for at := range b {
			for _, bits := range []byte{1, 2, 4, 8, 16, 32, 64, 128, 255} {
				other := slices.Clone(b)
				other[at] ^= bits
				f, e := codec.Get(other)
				if e != api.OK {
					if at >= 8 {
						t.Fatalf("%d: turned at %d, Get = %d", version, at, e)
					}
					continue
				}
				if again, e := codec.Put(f.Version, f.Records); e != api.OK || !bytes.Equal(again, other[:f.Good]) {
					t.Fatalf("%d: turned at %d, Get = %v, whose file is %q %d", version, at, f, again, e)
				}
			}
		}
	}
}

// TestNothingIsShared: neither what is handed in, nor what is answered, is kept or changed.
func TestNothingIsShared(t *testing.T) {
	for version := 1; version <= 3; version++ {
		l := records(version)
		want, _, _ := told(t, version, l)
		b, _ := codec.Put(version, l)
		if !slices.EqualFunc(l, records(version), record.Same) {
			t.Errorf("%d: Put changed what it was given", version)
		}
		for i := range l {
			clear(l[i].Deps)
		}
		clear(l)
		if !bytes.Equal(b, want) {
			t.Errorf("%d: whoever wrote into records changed their file", version)
		}
		f, _ := codec.Get(b)
		if !bytes.Equal(b, want) {
			t.Errorf("%d: Get changed what it was given", version)
		}
		clear(b)
		if !slices.EqualFunc(f.Records, records(version), record.Same) {
			t.Errorf("%d: whoever wrote into a file changed its records", version)
		}
		other, _ := codec.Get(want)
		for i := range f.Records {
			clear(f.Records[i].Deps)
		}
		clear(f.Records)
		clear(f.Ends)
		again, e := codec.Put(version, other.Records)
		if e != api.OK || !bytes.Equal(again, want) {
			t.Errorf("%d: two answers share memory", version)
		}
		clear(again)
		if again, _ := codec.Put(version, records(version)); !bytes.Equal(again, want) {
			t.Errorf("%d: whoever wrote into a file changed the next one", version)
		}
	}
}

// TestAnyBytes: no call panics, and bytes of no order are read as no file, or as one without records.
func TestAnyBytes(t *testing.T) {
	x := uint64(8)
	for range 20000 {
		x = x*6364136223846793005 + 1442695040888963407
		b := make([]byte, x>>33%70)
		for i := range b {
			x = x*6364136223846793005 + 1442695040888963407
			b[i] = byte(x >> 56)
		}
		if f, e := codec.Get(b); e == api.OK || f.Version != 0 || len(f.Records) != 0 {
			t.Fatalf("Get(%q) = %v %d", b, f, e)
		}
		head, _ := frame.Head(1 + int(x>>40%3))
		wantRead(t, "any bytes behind", int(head[3]), append(head, b...), nil, nil, 0)
	}
}
