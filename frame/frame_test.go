package frame_test

import (
	"bytes"
	"hash/crc32"
	"math"
	"strings"
	"testing"

	"tephra/api"
	"tephra/frame"
)

// next: a number that looks like chance, out of the one before.
func next(x uint64) uint64 {
	return x*6364136223846793005 + 1442695040888963407
}

// sealed: bytes with their sum behind, as it is reckoned elsewhere.
func sealed(b string) string {
	sum := crc32.ChecksumIEEE([]byte(b))
	return b + string([]byte{byte(sum), byte(sum >> 8), byte(sum >> 16), byte(sum >> 24)})
}

// framed: a payload's frame, laid by hand.
func framed(payload string) string {
	length := []byte{byte(len(payload))}
	if len(payload) >= 128 {
		length = []byte{byte(len(payload)) | 128, byte(len(payload) >> 7)}
	}
	return sealed(string(length) + payload)
}

// short: a text, or, where it is long, what it begins with.
func short(s string) string {
	return s[:min(len(s), 24)]
}

// payloads: payloads of all kinds of length.
var payloads = []string{
	"a", "\x00", "\xff", "ab", "\x00\x00\x00\x00", "TPH\x01", "näher",
	strings.Repeat("b", 127), strings.Repeat("c", 128), strings.Repeat("\x00", 300),
	strings.Repeat("d", api.MaxPayload-1), strings.Repeat("e", api.MaxPayload),
}

// heads: bytes that may stand ahead of a frame, and be of none.
var heads = []string{"", "\x00", "\x80", "\x01a", sealed("TPH\x01"), framed("ab")}

// wantGet holds what Get answers against what is wanted.
func wantGet(t *testing.T, b string, at int, payload string, behind int, want api.Errno) {
	t.Helper()
	given := []byte(b)
	p, end, e := frame.Get(given, at)
	if string(p) != payload || end != behind || e != want {
		t.Errorf("Get(%q of %d, %d) = %q (of %d) %d %d, want %q (of %d) %d %d", short(b), len(b), at, short(string(p)), len(p), end, e, short(payload), len(payload), behind, want)
	}
	if string(given) != b {
		t.Errorf("Get(%q, %d) wrote into what is handed in", short(b), at)
	}
}

// wantRun holds what Run answers against what is wanted.
func wantRun(t *testing.T, b string, at int, want []string, behind []int) {
	t.Helper()
	given := []byte(b)
	found, ends := frame.Run(given, at)
	if string(given) != b {
		t.Errorf("Run(%q, %d) wrote into what is handed in", short(b), at)
	}
	if len(found) != len(want) || len(ends) != len(behind) {
		t.Errorf("Run(%q of %d, %d) has %d payloads and %d ends, want %d", short(b), len(b), at, len(found), len(ends), len(want))
		return
	}
	for i, p := range found {
		if string(p) != want[i] || ends[i] != behind[i] {
			t.Errorf("Run(%q of %d, %d): payload %d is %q up to %d, want %q up to %d", short(b), len(b), at, i, short(string(p)), ends[i], short(want[i]), behind[i])
		}
	}
}

func TestKnownHeads(t *testing.T) {
	for version, want := range []string{"", "TPH\x01", "TPH\x02", "TPH\x03"} {
		if version == 0 {
			continue
		}
		b, e := frame.Head(version)
		if string(b) != sealed(want) || len(b) != 8 || e != api.OK {
			t.Errorf("Head(%d) = %q %d, want %q", version, b, e, sealed(want))
		}
		for _, behind := range []string{"", "\x00", framed("a"), "TPH"} {
			if v, e := frame.Version(append(b, behind...)); v != version || e != api.OK {
				t.Errorf("Version(%q) = %d %d", string(b)+behind, v, e)
			}
		}
	}
}

func TestHeadWantsAVersion(t *testing.T) {
	for _, version := range []int{0, -1, 4, 5, 257, 258, 259, 1<<32 + 1, math.MaxInt, math.MinInt, math.MinInt + 1} {
		if b, e := frame.Head(version); len(b) != 0 || e != api.ErrVersion {
			t.Errorf("Head(%d) = %q %d", version, b, e)
		}
	}
}

func TestVersionTellsErrors(t *testing.T) {
	good := sealed("TPH\x02")
	for _, x := range []struct {
		b    string
		want api.Errno
	}{
		{"", api.ErrShort},
		{"T", api.ErrShort},
		{"XYZ\x01\x00\x00\x00", api.ErrShort},
		{good[:7], api.ErrShort},
		{"XYZ\x02" + good[4:], api.ErrForm},
		{sealed("tph\x02"), api.ErrForm},
		{sealed("TPX\x02"), api.ErrForm},
		{sealed("TXH\x02"), api.ErrForm},
		{sealed("XPH\x02"), api.ErrForm},
		{sealed("\x00TPH"), api.ErrForm},
		{sealed("HPT\x09"), api.ErrForm},
		{"\x00" + good, api.ErrForm},
		{strings.Repeat("\x00", 8), api.ErrForm},
		{"TPH\x02\x00\x00\x00\x00", api.ErrSum},
		{"TPH\x01" + good[4:], api.ErrSum},
		{"TPH\x00\x00\x00\x00\x00", api.ErrSum},
		{"TPH\x09\x00\x00\x00\x00", api.ErrSum},
		{good[:7] + "\x00", api.ErrSum},
		{good[:4] + good[5:] + good[4:5], api.ErrSum},
		{sealed("TPH\x00"), api.ErrVersion},
		{sealed("TPH\x04"), api.ErrVersion},
		{sealed("TPH\x81"), api.ErrVersion},
		{sealed("TPH\xff"), api.ErrVersion},
		{sealed("TPH1") + framed("a"), api.ErrVersion},
	} {
		given := []byte(x.b)
		if v, e := frame.Version(given); v != 0 || e != x.want {
			t.Errorf("Version(%q) = %d %d, want %d", x.b, v, e, x.want)
		}
		if string(given) != x.b {
			t.Errorf("Version(%q) wrote into what is handed in", x.b)
		}
	}
}

func TestVersionOfEveryHead(t *testing.T) {
	for version := range 256 {
		want, wantErrno := version, api.OK
		if version < 1 || version > 3 {
			want, wantErrno = 0, api.ErrVersion
		}
		if v, e := frame.Version([]byte(sealed("TPH" + string([]byte{byte(version)})))); v != want || e != wantErrno {
			t.Errorf("of a head of the version %d: %d %d", version, v, e)
		}
	}
}

func TestPutLaysFrames(t *testing.T) {
	for _, head := range heads {
		for _, payload := range payloads {
			b, e := frame.Put([]byte(head), []byte(payload))
			if string(b) != head+framed(payload) || e != api.OK {
				t.Errorf("Put(%q, %q of %d) = %q of %d, error %d", head, short(payload), len(payload), short(string(b)), len(b), e)
			}
		}
	}
	if b, _ := frame.Put(nil, []byte("a")); len(b) != 6 || string(b[:2]) != "\x01a" {
		t.Errorf("the frame of a is %q", b)
	}
}

func TestPutWantsAPayload(t *testing.T) {
	for _, head := range heads {
		for _, payload := range []string{"", strings.Repeat("a", api.MaxPayload+1), strings.Repeat("\x00", 1<<16)} {
			if b, e := frame.Put([]byte(head), []byte(payload)); len(b) != 0 || e != api.ErrArg {
				t.Errorf("Put(%q, %d bytes) = %q %d", head, len(payload), short(string(b)), e)
			}
		}
	}
}

func TestGetReadsFrames(t *testing.T) {
	for _, head := range heads {
		for _, payload := range payloads {
			for _, behind := range []string{"", "\x00", "\xff", framed("b")} {
				b := head + framed(payload) + behind
				wantGet(t, b, len(head), payload, len(b)-len(behind), api.OK)
			}
		}
	}
}

func TestGetTellsErrors(t *testing.T) {
	good := framed("ab")
	nine := strings.Repeat("\xff", 9)
	long := strings.Repeat("a", api.MaxPayload+1)
	for _, x := range []struct {
		b    string
		at   int
		want api.Errno
	}{
		{good, -1, api.ErrArg},
		{good, math.MinInt, api.ErrArg},
		{good, len(good) + 1, api.ErrArg},
		{good, math.MaxInt, api.ErrArg},
		{"", -1, api.ErrArg},
		{"", 1, api.ErrArg},
		{"", 0, api.ErrNone},
		{good, len(good), api.ErrNone},
		{"\x80", 1, api.ErrNone},
		{"\x80", 0, api.ErrShort},
		{"\x80\x00", 0, api.ErrForm},
		{sealed("\x82\x00ab"), 0, api.ErrForm},
		{nine + "\x02", 0, api.ErrForm},
		{nine + "\x01", 0, api.ErrLimit},
		{framed(long), 0, api.ErrLimit},
		{framed(long)[:9], 0, api.ErrLimit},
		{"\x81\x10", 0, api.ErrLimit},
		{"\x80\x10", 0, api.ErrShort},
		{"\x80\x10" + long[:api.MaxPayload-1], 0, api.ErrShort},
		{"\x02a", 0, api.ErrShort},
		{"\x00", 0, api.ErrForm},
		{"\x00\x01\x02\x03", 0, api.ErrForm},
		{sealed("\x00"), 0, api.ErrForm},
		{"\x01a", 0, api.ErrShort},
		{good[:len(good)-1], 0, api.ErrShort},
		{good[:len(good)-4], 0, api.ErrShort},
		{"\x01a\x00\x00\x00", 0, api.ErrShort},
		{"\x01a\x00\x00\x00\x00", 0, api.ErrSum},
		{good[:len(good)-1] + "\x00", 0, api.ErrSum},
		{"\x02ac" + good[3:], 0, api.ErrSum},
		{"\x02ab" + sealed("ab")[2:], 0, api.ErrSum},
		{"\x02ab" + good[6:7] + good[5:6] + good[4:5] + good[3:4], 0, api.ErrSum},
	} {
		wantGet(t, x.b, x.at, "", 0, x.want)
	}
}

// laid: some payloads' frames, one behind the other, and of each the place behind.
func laid(head string, all []string) (b string, ends []int) {
	b = head
	for _, payload := range all {
		b += framed(payload)
		ends = append(ends, len(b))
	}
	return b, ends
}

func TestRunReadsAll(t *testing.T) {
	for _, head := range heads {
		for size := range len(payloads) + 1 {
			b, ends := laid(head, payloads[:size])
			for _, behind := range []string{"", "\x00", "\x80", "\x01a", sealed("\x00"), framed("a")[:5], sealed("TPH\x01")} {
				wantRun(t, b+behind, len(head), payloads[:size], ends)
			}
		}
	}
}

func TestRunBeginsAnywhere(t *testing.T) {
	b, ends := laid("head", []string{"a", "bc", "a"})
	wantRun(t, b, ends[0], []string{"bc", "a"}, ends[1:])
	wantRun(t, b, ends[1], []string{"a"}, ends[2:])
	for _, at := range []int{ends[2], ends[2] + 1, -1, ends[0] - 1, math.MaxInt, math.MinInt} {
		wantRun(t, b, at, nil, nil)
	}
	for _, at := range []int{-1, 0, 1, math.MaxInt} {
		wantRun(t, "", at, nil, nil)
	}
}

func TestRunEndsAtTheFirstRefused(t *testing.T) {
	good := framed("a")
	for _, bad := range []string{"\x00", "\x01a\x00\x00\x00\x00", sealed("\x00"), framed(strings.Repeat("a", api.MaxPayload+1)), sealed("\x81\x00a")} {
		wantRun(t, good+good+bad+good, 0, []string{"a", "a"}, []int{len(good), 2 * len(good)})
	}
}

func TestPutIsReadByRun(t *testing.T) {
	b, _ := frame.Head(2)
	var ends []int
	for _, payload := range payloads {
		b, _ = frame.Put(b, []byte(payload))
		ends = append(ends, len(b))
	}
	wantRun(t, string(b), 8, payloads, ends)
	if v, e := frame.Version(b); v != 2 || e != api.OK {
		t.Errorf("its version is %d %d", v, e)
	}
}

func TestCutOffAnywhere(t *testing.T) {
	all := []string{"a", "bcd", strings.Repeat("e", 130), "\x00", "\x01\x01"}
	for _, head := range []string{"", "head"} {
		b, ends := laid(head, all)
		for size := len(head); size <= len(b); size++ {
			whole := 0
			for whole < len(ends) && ends[whole] <= size {
				whole++
			}
			wantRun(t, b[:size], len(head), all[:whole], ends[:whole])
		}
	}
}

// turned: a copy with those bits turned that a row of 32 has, from a bit on; those beyond a place are left.
func turned(b string, bit int, row uint32, end int) string {
	out := []byte(b)
	for i := range 32 {
		if at := (bit + i) / 8; row>>i&1 == 1 && at < end {
			out[at] ^= 1 << ((bit + i) % 8)
		}
	}
	return string(out)
}

func TestTurnedBitsEndIt(t *testing.T) {
	all := []string{"a", "bcd", strings.Repeat("\x00", 130), "\xff\xff\xff\xff\xff", "e"}
	b, ends := laid("", all)
	x := uint64(3)
	from := 0
	for i, end := range ends {
		length := 1
		if len(all[i]) >= 128 {
			length = 2
		}
		for bit := 8 * (from + length); bit < 8*end; bit++ {
			rows := []uint32{1, 3, 0xff, math.MaxUint32, 1<<31 | 1, 0xedb88321}
			for range 6 {
				x = next(x)
				rows = append(rows, uint32(x>>32)|1)
			}
			for _, row := range rows {
				wantRun(t, turned(b, bit, row, end), 0, all[:i], ends[:i])
			}
		}
		from = end
	}
}

// TestSeesNoRoom: what stands in the room behind a list isn't of the list.
func TestSeesNoRoom(t *testing.T) {
	room := []byte(framed("a") + framed("b"))
	for size := range 6 {
		want := api.ErrShort
		if size == 0 {
			want = api.ErrNone
		}
		if p, end, e := frame.Get(room[:size], 0); len(p) != 0 || end != 0 || e != want {
			t.Errorf("of %d bytes: %q %d %d", size, p, end, e)
		}
	}
	for size := range 6 {
		if p, ends := frame.Run(room[:6+size], 0); len(p) != 1 || len(ends) != 1 {
			t.Errorf("of %d bytes: %q %d", 6+size, p, ends)
		}
	}
	head := []byte(sealed("TPH\x01"))
	if v, e := frame.Version(head[:7]); v != 0 || e != api.ErrShort {
		t.Errorf("of seven bytes: %d %d", v, e)
	}
}

func TestSharesNothing(t *testing.T) {
	const all = "abcdefghijklmnopqrstuvwxyz"
	room, payload := []byte(all), []byte("xyz")
	first, _ := frame.Put(room[:3], payload)
	second, _ := frame.Put(room[:3], payload)
	want := string(second)
	for i := range first {
		first[i] = 'X'
	}
	_ = append(first, "YYYYYYYY"...)
	room[0], payload[0] = 'Z', 'Z'
	if string(second) != want || string(room[1:]) != all[1:] || string(payload) != "Zyz" {
		t.Errorf("Put shares memory: %q %q", room, second)
	}
	b := []byte(framed("ab") + framed("cd"))
	one, _, _ := frame.Get(b, 0)
	many, ends := frame.Run(b, 0)
	one[0] = 'X'
	_ = append(many[0], "YYYY"...)
	if string(b) != framed("ab")+framed("cd") || string(many[0]) != "ab" || string(many[1]) != "cd" {
		t.Errorf("Get or Run shares memory: %q %q", b, many)
	}
	clear(b)
	if string(many[0]) != "ab" || string(many[1]) != "cd" || len(ends) != 2 {
		t.Errorf("what Run read changed: %q", many)
	}
	head, _ := frame.Head(1)
	clear(head)
	if again, _ := frame.Head(1); string(again) != sealed("TPH\x01") {
		t.Errorf("Head shares memory: %q", again)
	}
}

func TestTakesNilAsEmpty(t *testing.T) {
	if v, e := frame.Version(nil); v != 0 || e != api.ErrShort {
		t.Errorf("Version of nil: %d %d", v, e)
	}
	if b, e := frame.Put(nil, nil); len(b) != 0 || e != api.ErrArg {
		t.Errorf("Put of nil: %q %d", b, e)
	}
	if b, e := frame.Put(nil, []byte("a")); string(b) != framed("a") || e != api.OK {
		t.Errorf("Put behind nil: %q %d", b, e)
	}
	for at, want := range []api.Errno{api.ErrNone, api.ErrArg} {
		if p, end, e := frame.Get(nil, at); len(p) != 0 || end != 0 || e != want {
			t.Errorf("Get(nil, %d) = %q %d %d", at, p, end, e)
		}
		if p, ends := frame.Run(nil, at); len(p) != 0 || len(ends) != 0 {
			t.Errorf("Run(nil, %d) = %q %d", at, p, ends)
		}
	}
}

// TestOneWayOfStrewnBytes: what Get reads has just the bytes that it was read from, and Run is Get, over and over.
func TestOneWayOfStrewnBytes(t *testing.T) {
	pieces := []string{"\x00", "\x01", "\x80", "\x01a", "\xff", framed("a"), framed("\x01b"), framed("ccc"), sealed("\x00"), sealed("TPH\x02")}
	x := uint64(11)
	for round := range 5000 {
		var b []byte
		for range round % 9 {
			x = next(x)
			b = append(b, pieces[(x>>33)%uint64(len(pieces))]...)
		}
		for at := -1; at <= len(b)+1; at++ {
			holdOneWay(t, b, at)
		}
	}
}

// holdOneWay: each payload that is read from a place on has just the bytes that were read.
func holdOneWay(t *testing.T, b []byte, at int) {
	t.Helper()
	found, ends := frame.Run(b, at)
	for i, p := range found {
		one, end, e := frame.Get(b, at)
		if !bytes.Equal(one, p) || end != ends[i] || e != api.OK {
			t.Fatalf("of %q at %d: Get = %q %d %d, Run %q %d", b, at, one, end, e, p, ends[i])
		}
		if again, e := frame.Put(nil, p); !bytes.Equal(again, b[at:end]) || e != api.OK {
			t.Fatalf("of %q at %d: %q has the frame %q", b, at, p, again)
		}
		at = end
	}
	if p, end, e := frame.Get(b, at); len(p) != 0 || end != 0 || e == api.OK {
		t.Fatalf("of %q at %d: Run ends, Get = %q %d %d", b, at, p, end, e)
	}
}
