package tests

import (
	"math"
	"math/rand"
	"regexp"
	"strconv"
	"strings"
	"testing"

	"loop.example/s02349/impl"
)

const (
	allLetters = "DFRSTabcdefghijklmnopqrstuvwxyz"
	bit31      = uint32(1) << 31
)

// letterBits is a second telling of which letter is which flag.
func letterBits(letter byte) uint32 {
	switch letter {
	case 'D':
		return impl.FlagDraft
	case 'F':
		return impl.FlagFlagged
	case 'R':
		return impl.FlagAnswered
	case 'S':
		return impl.FlagSeen
	case 'T':
		return impl.FlagDeleted
	}
	return 32 << (letter - 'a')
}

// someFlags is each flag alone, each pair, none, all, and many by chance.
func someFlags() []uint32 {
	list := []uint32{0, impl.AllFlags}
	for a := range 31 {
		for b := range a + 1 {
			list = append(list, 1<<a|1<<b, impl.AllFlags&^(1<<a|1<<b))
		}
	}
	r := rand.New(rand.NewSource(6))
	for range 3000 {
		list = append(list, r.Uint32()&impl.AllFlags)
	}
	return list
}

func wantNoLetters(t *testing.T, text string) {
	t.Helper()
	if got := impl.LetterFlags(text); got != (impl.Flags{}) {
		t.Fatalf("%q: %v", text, got)
	}
}

func wantNoName(t *testing.T, name string) {
	t.Helper()
	if got := impl.ReadMailName(name); got != (impl.Mailed{}) {
		t.Fatalf("%q: %v", name, got)
	}
}

func TestLettersOfFlags(t *testing.T) {
	for _, letter := range []byte(allLetters) {
		if got := impl.FlagLetters(letterBits(letter)); got != string(letter) {
			t.Errorf("%d: %q, want %q", letterBits(letter), got, letter)
		}
		if got := impl.LetterFlags(string(letter)); !got.Ok || got.Flags != letterBits(letter) {
			t.Errorf("%q: %v, want %d", letter, got, letterBits(letter))
		}
	}
	for flags, want := range map[uint32]string{
		0: "", impl.AllFlags: allLetters, bit31: "", math.MaxUint32: allLetters, bit31 | impl.FlagSeen: "S",
		impl.FlagAnswered | impl.FlagDraft: "DR", 1 << 30: "z", 1 << 5: "a", 1<<5 | impl.FlagDeleted: "Ta",
	} {
		if got := impl.FlagLetters(flags); got != want {
			t.Errorf("%d: %q, want %q", flags, got, want)
		}
	}
}

// Promise 6, as far as letters go.
func TestFlagsOfLetters(t *testing.T) {
	for _, flags := range someFlags() {
		text := impl.FlagLetters(flags)
		for i := 1; i < len(text); i++ {
			if text[i-1] >= text[i] {
				t.Fatalf("%d: %q does not rise", flags, text)
			}
		}
		if got := impl.LetterFlags(text); !got.Ok || got.Flags != flags {
			t.Fatalf("%d: %q gives %v", flags, text, got)
		}
		if impl.FlagLetters(flags|bit31) != text {
			t.Fatal("bit 31 is told", flags)
		}
	}
}

func TestTextsThatAreNoLetters(t *testing.T) {
	for _, text := range []string{
		"SS", "aa", "DD", "zz", "FD", "TS", "aS", "ba", "za", "zD", "aba", "DFD", "DFRSTaT", allLetters + "z", allLetters + allLetters,
		"A", "B", "E", "Z", " ", " S", "S ", "D F", "S\n", "S\x00", "\x00", "1", "{", "`", "@", "é", "sé", "\xff", "S\xff", "\xed\xa0\x80", "Ｓ", "ſ",
	} {
		wantNoLetters(t, text)
	}
	if got := impl.LetterFlags(""); !got.Ok || got.Flags != 0 {
		t.Fatal("no letters", got)
	}
	wantNoLetters(t, strings.Repeat("z", 100000))
}

func TestAllPairsOfLetters(t *testing.T) {
	for a := range 256 {
		for b := range 256 {
			text := string([]byte{byte(a), byte(b)})
			good := a < b && strings.IndexByte(allLetters, byte(a)) >= 0 && strings.IndexByte(allLetters, byte(b)) >= 0
			if !good {
				wantNoLetters(t, text)
			} else if got := impl.LetterFlags(text); !got.Ok || got.Flags != letterBits(byte(a))|letterBits(byte(b)) {
				t.Fatalf("%q: %v", text, got)
			}
		}
	}
}

func TestMailNames(t *testing.T) {
	for _, c := range []struct {
		uid   uint32
		stamp int64
		flags uint32
		want  string
	}{
		{1, 0, 0, "cur/1.0:2,"},
		{10, 20, impl.FlagSeen | impl.FlagDraft | 1<<5, "cur/10.20:2,DSa"},
		{math.MaxUint32, impl.MaxStamp, impl.AllFlags, "cur/4294967295.1000000000000:2," + allLetters},
		{7, 5, bit31, "cur/7.5:2,"},
		{7, 5, math.MaxUint32, "cur/7.5:2," + allLetters},
		{0, 0, 0, ""}, {0, 5, 8, ""},
		{1, -1, 0, ""}, {1, math.MinInt64, 0, ""},
		{1, impl.MaxStamp + 1, 0, ""}, {1, math.MaxInt64, 0, ""},
	} {
		if got := impl.MailName(c.uid, c.stamp, c.flags); got != c.want {
			t.Errorf("%d %d %d: %q, want %q", c.uid, c.stamp, c.flags, got, c.want)
		}
	}
}

// Promise 5, its first part.
func TestReadMailNameOfMailName(t *testing.T) {
	uids := []uint32{1, 2, 9, 10, 11, 99, 100, 101, 1000000, math.MaxInt32, math.MaxInt32 + 1, math.MaxUint32 - 1, math.MaxUint32}
	stamps := []int64{0, 1, 9, 10, 100, math.MaxUint32, math.MaxUint32 + 1, impl.MaxStamp - 1, impl.MaxStamp}
	for _, uid := range uids {
		for _, stamp := range stamps {
			for _, flags := range []uint32{0, 1, 16, 32, 1 << 30, impl.AllFlags} {
				name := impl.MailName(uid, stamp, flags)
				want := impl.Mailed{Ok: true, Uid: uid, Stamp: stamp, Flags: flags}
				if got := impl.ReadMailName(name); got != want {
					t.Fatalf("%q: %v, want %v", name, got, want)
				}
			}
		}
	}
	r := rand.New(rand.NewSource(5))
	for _, flags := range someFlags() {
		want := impl.Mailed{Ok: true, Uid: max(r.Uint32()>>r.Intn(32), 1), Stamp: r.Int63n(impl.MaxStamp + 1), Flags: flags}
		name := impl.MailName(want.Uid, want.Stamp, flags|bit31)
		if got := impl.ReadMailName(name); got != want {
			t.Fatalf("%q: %v, want %v", name, got, want)
		}
	}
}

func TestNamesThatAreNone(t *testing.T) {
	for _, name := range []string{
		"", "cur/", "cur", ".", ":2,", "cur/.:2,", "index", "tmp/7", "cur/1.1:2,S\n", " cur/1.1:2,",
		"cur/01.1:2,", "cur/00.1:2,", "cur/1.01:2,", "cur/1.00:2,", "cur/0001.0001:2,",
		"cur/0.1:2,", "cur/0.0:2,",
		"cur/+1.1:2,", "cur/-1.1:2,", "cur/1.+1:2,", "cur/1.-1:2,", "cur/1.-0:2,", "cur/1_0.1:2,", "cur/1.1_0:2,", "cur/0x1.1:2,", "cur/1e1.1:2,", "cur/ 1.1:2,", "cur/1 .1:2,", "cur/1.1 :2,", "cur/١.1:2,",
		"cur/4294967296.1:2,", "cur/4294967297.1:2,", "cur/18446744073709551617.1:2,", "cur/99999999999999999999999.1:2,",
		"cur/1.1000000000001:2,", "cur/1.18446744073709551617:2,", "cur/1.99999999999999999999999:2,",
		"1.1:2,", "/1.1:2,", "Cur/1.1:2,", "new/1.1:2,", "cur//1.1:2,", "cur/cur/1.1:2,", "cur1.1:2,",
		"cur/.1:2,", "cur/11:2,", "cur/1:2,", "cur/1.:2,", "cur/1..1:2,", "cur/1.1.1:2,", "cur/1.1", "cur/1.1S", "cur/1.1:2", "cur/1.1:2S", "cur/1.1:,", "cur/1.12,", "cur/1.1:1,", "cur/1.1:3,",
		"cur/1.1:2,:2,", "cur/1.1:2,S:2,S", "cur/1.1:2,2,", "cur/1.1:2,,", "cur/1.1.:2,", "cur/1.1:2,.",
		"cur/1.1:2,TS", "cur/1.1:2,SS", "cur/1.1:2,aS", "cur/1.1:2,X", "cur/1.1:2,S ", "cur/1.1:2,\xff", "cur/1.1:2," + allLetters + "z",
	} {
		wantNoName(t, name)
	}
	wantNoName(t, "cur/"+strings.Repeat("1", 100000)+".1:2,")
	wantNoName(t, "cur/1."+strings.Repeat("0", 100000)+":2,")
}

// nameForm, with the limits of the numbers, is a second telling of what
// ReadMailName takes.
var nameForm = regexp.MustCompile(`^cur/([1-9][0-9]*)\.(0|[1-9][0-9]*):2,(` + strings.Join(strings.Split(allLetters, ""), "?") + `?)$`)

func plainName(name string) impl.Mailed {
	m := nameForm.FindStringSubmatch(name)
	if m == nil {
		return impl.Mailed{}
	}
	uid, errUid := strconv.ParseUint(m[1], 10, 32)
	stamp, errStamp := strconv.ParseInt(m[2], 10, 64)
	if errUid != nil || errStamp != nil || stamp > impl.MaxStamp {
		return impl.Mailed{}
	}
	var flags uint32
	for _, letter := range []byte(m[3]) {
		flags |= letterBits(letter)
	}
	return impl.Mailed{Ok: true, Uid: uint32(uid), Stamp: stamp, Flags: flags}
}

// nearNames are name with one byte changed, put in or left out.
func nearNames(name string) []string {
	list := []string{name}
	for at := range len(name) + 1 {
		for b := range 256 {
			list = append(list, name[:at]+string([]byte{byte(b)})+name[at:])
			if at < len(name) {
				list = append(list, name[:at]+string([]byte{byte(b)})+name[at+1:])
			}
		}
		if at < len(name) {
			list = append(list, name[:at]+name[at+1:])
		}
	}
	return list
}

// Promise 5, its second part.
func TestNamesThatAreTaken(t *testing.T) {
	for _, name := range []string{
		"cur/1.0:2,", "cur/7.12:2,S", "cur/10.20:2,DSaz", "cur/4294967295.1000000000000:2,Dq", "cur/429496729.99999999999:2,", "cur/42949672.100:2," + allLetters,
	} {
		for _, near := range nearNames(name) {
			got := impl.ReadMailName(near)
			if got != plainName(near) {
				t.Fatalf("%q: %v, want %v", near, got, plainName(near))
			}
			if got.Ok && impl.MailName(got.Uid, got.Stamp, got.Flags) != near {
				t.Fatalf("%q is taken, but it is not the name of %v", near, got)
			}
		}
	}
}
