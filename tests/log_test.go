package tests

import (
	"bytes"
	"encoding/binary"
	"hash/crc32"
	"math/rand"
	"testing"

	"loop.example/s02349/impl"
)

func record(n int) []byte {
	b := make([]byte, n)
	for i := range b {
		b[i] = byte(i*7 + n)
	}
	return b
}

func recordsOf(sizes ...int) [][]byte {
	var list [][]byte
	for _, n := range sizes {
		list = append(list, record(n))
	}
	return list
}

// mostRecords fill a log of MaxLog bytes to the last one.
func mostRecords() [][]byte {
	var list [][]byte
	left := impl.MaxLog
	for left > impl.MaxRecord+6 {
		list = append(list, record(impl.MaxRecord))
		left -= impl.MaxRecord + 6
	}
	return append(list, record(left-6))
}

// framed writes a frame whatever the length, with the sum of the library.
func framed(rec []byte) []byte {
	b := binary.BigEndian.AppendUint16(nil, uint16(len(rec)))
	b = binary.BigEndian.AppendUint32(b, crc32.ChecksumIEEE(append(b[:2:2], rec...)))
	return append(b, rec...)
}

func framedAll(list [][]byte) []byte {
	var log []byte
	for _, rec := range list {
		log = append(log, framed(rec)...)
	}
	return log
}

func sameRecords(a, b [][]byte) bool {
	if len(a) != len(b) {
		return false
	}
	for i := range a {
		if !bytes.Equal(a[i], b[i]) {
			return false
		}
	}
	return true
}

func wantLog(t *testing.T, data []byte, records [][]byte) {
	t.Helper()
	got := impl.Unframe(data)
	if !sameRecords(got.Records, records) || got.Good != len(framedAll(records)) {
		t.Fatalf("%d records, Good %d; want %d records, Good %d", len(got.Records), got.Good, len(records), len(framedAll(records)))
	}
}

func TestSums(t *testing.T) {
	for text, want := range map[string]uint32{
		"": 0, "a": 0xE8B7BE43, "abc": 0x352441C2, "123456789": 0xCBF43926, "\x00": 0xD202EF8D, "\xff": 0xFF000000,
	} {
		if got := impl.Crc([]byte(text)); got != want {
			t.Errorf("%q %08x", text, got)
		}
	}
	for _, n := range []int{1, 255, 256, 257, 2000, 50000} {
		if got := impl.Crc(record(n)); got != crc32.ChecksumIEEE(record(n)) {
			t.Error(n, got)
		}
	}
}

func TestFrameLayout(t *testing.T) {
	got := impl.Frame([][]byte{[]byte("V 1 1 0")})
	if len(got) != 13 || string(got[:2]) != "\x00\x07" || string(got[6:]) != "V 1 1 0" {
		t.Fatalf("%q", got)
	}
	if sum := binary.BigEndian.Uint32(got[2:6]); sum != crc32.ChecksumIEEE([]byte("\x00\x07V 1 1 0")) {
		t.Fatalf("%08x", sum)
	}
	if got := impl.Frame(recordsOf(impl.MaxRecord)); got[0] != 0x07 || got[1] != 0xD0 || len(got) != 2006 {
		t.Fatal(got[:2], len(got))
	}
	if got := impl.Frame(recordsOf(3, 260, 1)); !bytes.Equal(got, framedAll(recordsOf(3, 260, 1))) {
		t.Fatal(got)
	}
}

// Promise 3, its first part.
func TestUnframeOfFrame(t *testing.T) {
	for _, list := range [][][]byte{
		nil,
		recordsOf(1),
		recordsOf(1, 1, 1),
		recordsOf(255, 256, 257, 1),
		recordsOf(impl.MaxRecord),
		recordsOf(1, impl.MaxRecord, 1),
		{{0}, {0, 0, 0}, {255}},
		mostRecords(),
	} {
		log := impl.Frame(list)
		if len(log) != len(framedAll(list)) {
			t.Fatal(len(log))
		}
		wantLog(t, log, list)
	}
}

func TestFrameRefuses(t *testing.T) {
	most := mostRecords()
	if len(impl.Frame(most)) != impl.MaxLog {
		t.Fatal(len(impl.Frame(most)))
	}
	over := mostRecords()
	over[len(over)-1] = append(over[len(over)-1], 'x')
	for i, list := range [][][]byte{
		{nil},
		{{}},
		{record(5), nil},
		{nil, record(5)},
		recordsOf(impl.MaxRecord + 1),
		recordsOf(1, impl.MaxRecord+1),
		recordsOf(1 << 16),
		recordsOf(1<<16 + 5),
		over,
		append(mostRecords(), record(1)),
		append(recordsOf(1), mostRecords()...),
	} {
		if got := impl.Frame(list); len(got) != 0 {
			t.Error(i, len(got))
		}
	}
}

// Promise 3, its second part.
func TestPrefixes(t *testing.T) {
	list := recordsOf(1, 7, 300, 2)
	log := impl.Frame(list)
	for n := range len(log) + 1 {
		whole, end := 0, 0
		for whole < len(list) && end+6+len(list[whole]) <= n {
			end += 6 + len(list[whole])
			whole++
		}
		wantLog(t, log[:n], list[:whole])
	}
}

// Promise 3, its third part.
func TestBytesBehindALog(t *testing.T) {
	list := recordsOf(4, 9)
	log := impl.Frame(list)
	for _, tail := range [][]byte{
		{0},
		{0, 0, 0, 0, 0},
		make([]byte, 6),
		make([]byte, 500),
		[]byte("more than a head, and no frame"),
		framed(nil),
		framed(record(impl.MaxRecord + 1)),
		framed(record(9))[:14],
		bytes.Repeat([]byte{255}, 100),
		append([]byte{'x'}, framed(record(3))...),
		append(framed(nil), framed(record(3))...),
	} {
		wantLog(t, append(bytes.Clone(log), tail...), list)
		wantLog(t, tail, nil)
	}
	wantLog(t, append(bytes.Clone(log), framed(record(3))...), recordsOf(4, 9, 3))
}

func TestLongestLogs(t *testing.T) {
	log := impl.Frame(mostRecords())
	wantLog(t, log, mostRecords())
	if got := impl.Unframe(append(bytes.Clone(log), 0)); len(got.Records) != 0 || got.Good != 0 {
		t.Fatal("one byte too many", len(got.Records), got.Good)
	}
	short := impl.Frame(recordsOf(8))
	padded := append(bytes.Clone(short), make([]byte, impl.MaxLog-len(short))...)
	wantLog(t, padded, recordsOf(8))
	if got := impl.Unframe(append(padded, 0)); len(got.Records) != 0 || got.Good != 0 {
		t.Fatal("one byte too many", len(got.Records), got.Good)
	}
	wantLog(t, nil, nil)
}

func TestSpoiltFrames(t *testing.T) {
	list := recordsOf(3, 5, 4)
	log := impl.Frame(list)
	starts := []int{0, 9, 20, 30}
	for at := range log {
		for bit := range 8 {
			spoilt := bytes.Clone(log)
			spoilt[at] ^= 1 << bit
			whole := 0
			for starts[whole+1] <= at {
				whole++
			}
			wantLog(t, spoilt, list[:whole])
		}
	}
}

func TestAnyBytes(t *testing.T) {
	for seed := range int64(500) {
		r := rand.New(rand.NewSource(seed))
		data := make([]byte, r.Intn(60))
		r.Read(data)
		if len(data) > 1 {
			data[0] = 0
		}
		before := bytes.Clone(data)
		got := impl.Unframe(data)
		if !bytes.Equal(framedAll(got.Records), data[:got.Good]) || !bytes.Equal(data, before) {
			t.Fatal(seed, got)
		}
	}
}

func TestMemoryOfLogs(t *testing.T) {
	list := recordsOf(3, 4)
	log := impl.Frame(list)
	told := bytes.Clone(log)
	got := impl.Unframe(log)
	scribbleBytes(list[0])
	if !bytes.Equal(log, told) {
		t.Fatal("a log holds memory of its records")
	}
	scribbleBytes(log)
	if !sameRecords(got.Records, recordsOf(3, 4)) {
		t.Fatal("records hold memory of a log")
	}
	scribbleBytes(got.Records[0])
	if !bytes.Equal(got.Records[1], record(4)) {
		t.Fatal("records share memory")
	}
}
