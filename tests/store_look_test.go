package tests

import (
	"fmt"
	"strings"
	"testing"

	"loop.example/s02349/impl"
)

// entry is the shortest one, that of an empty body.
const entry = "From mail\n\n"

func manyMails(n int) []string {
	records := []string{"V 5 1 0"}
	for i := range n {
		records = append(records, fmt.Sprintf("A %d 0 0 11 0", i+1))
	}
	return records
}

func emptyMails(n int) []impl.Mail {
	var list []impl.Mail
	for i := range n {
		list = append(list, impl.Mail{Uid: uint32(i + 1)})
	}
	return list
}

func TestDisksWithoutMailbox(t *testing.T) {
	for name, d := range wrongDisks() {
		t.Run(name, func(t *testing.T) { wantCode(t, d, impl.StoreBadDisk) })
	}
	bad := mboxDisk("", "V 5 1 0")
	bad.Quota = -1
	wantCode(t, bad, impl.StoreBadDisk)
	for _, d := range []impl.Disk{
		{}, {Quota: impl.MaxQuota}, diskOf("cursor", logOf("B")), diskOf("mbox.0", ""), diskOf("index.new", logOf("V 5 1 0"), "mbox.0", ""),
		diskOf("uidlist.new", logOf("V 5 1")), diskOf("Index", logOf("V 5 1 0"), "mbox.0", ""), diskOf("cur/1.0:2,", "x"),
	} {
		wantCode(t, d, impl.StoreNone)
	}
}

func TestWhichForm(t *testing.T) {
	index, cursor, uidlist := logOf("V 5 1 0"), logOf("B"), logOf("V 6 1")
	for _, row := range []struct {
		d        impl.Disk
		kind     int
		validity uint32
	}{
		{diskOf("index", index, "mbox.0", ""), impl.KindMbox, 5},
		{diskOf("index", index, "mbox.0", "", "uidlist", uidlist), impl.KindMbox, 5},
		{diskOf("index", index, "mbox.0", "", "uidlist", "no log"), impl.KindMbox, 5},
		{diskOf("index", index, "mbox.0", "", "cursor.new", cursor), impl.KindMbox, 5},
		{diskOf("index", index, "mbox.0", "", "cursor", cursor), impl.KindMoving, 5},
		{diskOf("index", index, "mbox.0", "", "cursor", cursor, "uidlist", uidlist), impl.KindMoving, 5},
		{diskOf("uidlist", uidlist), impl.KindMaildir, 6},
		{diskOf("uidlist", uidlist, "cursor", cursor, "mbox.0", ""), impl.KindMaildir, 6},
		{diskOf("uidlist", uidlist, "cursor", "no log", "index.new", index), impl.KindMaildir, 6},
	} {
		wantView(t, row.d, impl.View{Kind: row.kind, Validity: row.validity, Next: 1})
	}
}

func TestIndexesThatAreSound(t *testing.T) {
	mail := impl.Mail{Uid: 3, Stamp: 7, Flags: 1, Body: []byte("a\n")}
	look := func(next uint32, mails ...impl.Mail) impl.View {
		return impl.View{Kind: impl.KindMbox, Validity: 5, Next: next, Mails: mails}
	}
	flagged := mail
	flagged.Flags = 9
	bare := mail
	bare.Body = []byte("a")
	for _, row := range []struct {
		text    string
		records string
		want    impl.View
	}{
		{"", "V 5 1 0", look(1)},
		{"", "V 5 10 0", look(10)},
		{"From mail\na\n\n", "V 5 1 0|A 3 7 1 13 0", look(4, mail)},
		{"From mail\na\n\n", "V 5 4 0|A 3 7 1 13 0", look(4, mail)},
		{"From mail\na\n\n", "V 5 5 0|A 3 7 1 13 0", look(5, mail)},
		{"From mail\na\n\n", "V 5 4294967295 0|A 3 7 1 13 0", look(4294967295, mail)},
		{"From mail\na\n\n", "V 5 1 0|A 3 7 1 13 1", look(4, bare)},
		{"From mail\na\n\n", "V 5 1 0|A 3 7 0 13 0|F 3 9", look(4, flagged)},
		{"From mail\na\n\n", "V 5 1 0|A 3 7 0 13 0|F 3 2147483647|F 3 9", look(4, flagged)},
		{"From mail\n\n\n", "V 5 1 0|A 3 7 1 12 1", look(4, impl.Mail{Uid: 3, Stamp: 7, Flags: 1})},
		{entry + entry, "V 5 1 0|A 1 0 0 11 0|F 1 4|A 2 0 0 11 0|F 1 0", look(3, emptyMails(2)...)},
		{entry, "V 5 1 0|A 4294967294 1000000000000 2147483647 11 0", look(4294967295, impl.Mail{Uid: 4294967294, Stamp: impl.MaxStamp, Flags: impl.AllFlags})},
		// Only what the index tells of counts.
		{entry + entry, "V 5 1 0|A 1 0 0 11 0", look(2, emptyMails(1)...)},
		{entry + "From mail", "V 5 1 0|A 1 0 0 11 0", look(2, emptyMails(1)...)},
		{"no entry", "V 5 1 0", look(1)},
	} {
		wantView(t, mboxDisk(row.text, strings.Split(row.records, "|")...), row.want)
	}
	d := diskOf("index", logOf("V 4294967295 1 99999", "A 1 0 0 11 0"), "mbox.99999", entry)
	wantView(t, d, impl.View{Kind: impl.KindMbox, Validity: 4294967295, Next: 2, Mails: emptyMails(1)})
	d = mboxDisk(strings.Repeat(entry, 100), manyMails(100)...)
	wantView(t, d, look(101, emptyMails(100)...))
}

func TestIndexesThatAreNotSound(t *testing.T) {
	body := "From mail\na\n\n"
	for _, row := range []struct{ text, records string }{
		// The first record.
		{"", "A 1 0 0 11 0"}, {entry, "A 1 0 0 11 0|V 5 1 0"}, {"", "F 1 0"}, {"", "B"}, {"", "X 5 1 0"}, {"", "v 5 1 0"}, {"", "V"},
		{"", "V 5 1"}, {"", "V 5 1 0 0"}, {"", "V5 1 0"}, {"", " V 5 1 0"}, {"", "V 5 1 0 "}, {"", "V  5 1 0"}, {"", "V 5  1 0"}, {"", "V\t5 1 0"}, {"", "V 5 1 0\n"}, {"", "V 5 1 "}, {"", "V 5 1 0\x00"},
		{"", "V 0 1 0"}, {"", "V 4294967296 1 0"}, {"", "V 05 1 0"}, {"", "V +5 1 0"}, {"", "V -5 1 0"}, {"", "V x 1 0"},
		{"", "V 5 0 0"}, {"", "V 5 4294967296 0"}, {"", "V 5 01 0"}, {"", "V 5 18446744073709551617 0"},
		{"", "V 5 1 100000"}, {"", "V 5 1 00"}, {"", "V 5 1 -0"}, {"", "V 5 1 1"},
		// Records of other kinds behind it.
		{"", "V 5 1 0|V 5 1 0"}, {"", "V 5 1 0|B"}, {"", "V 5 1 0|C 1"}, {"", "V 5 1 0|X 3 1"}, {"", "V 5 1 0|a"}, {"", "V 5 1 0| "}, {body, "V 5 1 0|A 3 7 1 13 0|V 5 1 0"},
		// A records.
		{entry, "V 5 1 0|A 0 0 0 11 0"}, {entry, "V 5 1 0|A 4294967295 0 0 11 0"}, {entry, "V 5 1 0|A 4294967296 0 0 11 0"}, {entry, "V 5 1 0|A 01 0 0 11 0"},
		{entry + entry, "V 5 1 0|A 2 0 0 11 0|A 2 0 0 11 0"}, {entry + entry, "V 5 1 0|A 2 0 0 11 0|A 1 0 0 11 0"}, {entry + entry + entry, "V 5 1 0|A 1 0 0 11 0|A 3 0 0 11 0|A 2 0 0 11 0"},
		{entry, "V 5 1 0|A 1 1000000000001 0 11 0"}, {entry, "V 5 1 0|A 1 -1 0 11 0"}, {entry, "V 5 1 0|A 1 00 0 11 0"},
		{entry, "V 5 1 0|A 1 0 2147483648 11 0"}, {entry, "V 5 1 0|A 1 0 4294967295 11 0"}, {entry, "V 5 1 0|A 1 0 00 11 0"},
		{entry, "V 5 1 0|A 1 0 0 011 0"}, {entry, "V 5 1 0|A 1 0 0 -11 0"}, {entry, "V 5 1 0|A 1 0 0 18446744073709551627 0"},
		{entry, "V 5 1 0|A 1 0 0 11 2"}, {entry, "V 5 1 0|A 1 0 0 11 00"}, {entry, "V 5 1 0|A 1 0 0 11 "}, {entry, "V 5 1 0|A 1 0 0 11"}, {entry, "V 5 1 0|A 1 0 0 11 0 0"}, {entry, "V 5 1 0|A  1 0 0 11 0"}, {entry, "V 5 1 0|A"},
		// F records.
		{entry, "V 5 1 0|F 1 0|A 1 0 0 11 0"}, {entry, "V 5 1 0|A 1 0 0 11 0|F 2 0"}, {entry, "V 5 1 0|A 1 0 0 11 0|F 0 0"}, {entry, "V 5 1 0|A 1 0 0 11 0|F 01 0"},
		{entry, "V 5 1 0|A 1 0 0 11 0|F 1 2147483648"}, {entry, "V 5 1 0|A 1 0 0 11 0|F 1 -1"}, {entry, "V 5 1 0|A 1 0 0 11 0|F 1"}, {entry, "V 5 1 0|A 1 0 0 11 0|F 1 0 0"}, {entry, "V 5 1 0|A 1 0 0 11 0|F 1 00"}, {entry, "V 5 1 0|A 1 0 0 11 0|F"},
		// The text and the lengths.
		{"", "V 5 1 0|A 1 0 0 11 0"}, {"From mail\n", "V 5 1 0|A 1 0 0 11 0"}, {entry[1:], "V 5 1 0|A 1 0 0 10 0"}, {"From x\n\n\n\n\n", "V 5 1 0|A 1 0 0 11 0"}, {"x" + entry, "V 5 1 0|A 1 0 0 12 0"},
		{body, "V 5 1 0|A 1 0 0 12 0"}, {body, "V 5 1 0|A 1 0 0 0 0"}, {body + body, "V 5 1 0|A 1 0 0 26 0"}, {body + body, "V 5 1 0|A 1 0 0 14 0"}, {body + entry, "V 5 1 0|A 1 0 0 11 0|A 2 0 0 13 0"}, {body + entry, "V 5 1 0|A 1 0 0 13 0|A 2 0 0 12 0"}, {entry, "V 5 1 0|A 1 0 0 11 0|A 2 0 0 0 0"}, {entry, "V 5 1 0|A 1 0 0 0 0|A 2 0 0 11 0"},
		// A mail that is bare without a byte to take.
		{entry, "V 5 1 0|A 1 0 0 11 1"},
	} {
		t.Run(row.records, func(t *testing.T) {
			wantCode(t, mboxDisk(row.text, strings.Split(row.records, "|")...), impl.StoreCorrupt)
		})
	}
	wantCode(t, mboxDisk(strings.Repeat(entry, 101), manyMails(101)...), impl.StoreCorrupt)
	for _, d := range []impl.Disk{
		diskOf("index", "", "mbox.0", ""),
		diskOf("index", "junk", "mbox.0", ""),
		diskOf("index", logOf("V 5 1 0")[1:], "mbox.0", ""),
		diskOf("index", logOf("V 5 1 0")),
		diskOf("index", logOf("V 5 1 0"), "mbox.1", ""),
		diskOf("index", logOf("V 5 1 7"), "mbox.0", "", "mbox.07", ""),
		diskOf("index", "", "mbox.0", "", "uidlist", logOf("V 5 1")),
	} {
		wantCode(t, d, impl.StoreCorrupt)
	}
}

func TestBytesThatCountForNothing(t *testing.T) {
	index, text := logOf("V 5 1 0", "A 1 0 0 11 0"), entry
	want := impl.View{Kind: impl.KindMbox, Validity: 5, Next: 2, Mails: emptyMails(1)}
	torn := logOf("F 1 9")
	for _, tail := range []string{"", "x", torn[:len(torn)-1], torn[:6], torn[:1], "x" + torn, "\x00\x00\x00\x00\x00\x00", torn[1:]} {
		wantView(t, diskOf("index", index+tail, "mbox.0", text), want)
		wantView(t, diskOf("index", index, "mbox.0", text+tail), want)
		wantView(t, diskOf("uidlist", logOf("V 5 2")+tail, "cur/1.0:2,", ""), impl.View{Kind: impl.KindMaildir, Validity: 5, Next: 2, Mails: emptyMails(1)})
		wantView(t, diskOf("index", index, "mbox.0", text, "cursor", logOf("B")+tail), impl.View{Kind: impl.KindMoving, Validity: 5, Next: 2, Mails: emptyMails(1)})
	}
	// A whole frame does count.
	want.Mails[0].Flags = 9
	wantView(t, diskOf("index", index+torn, "mbox.0", text), want)
}

// Look takes bytes that no sync has made safe and names that wait in Pend.
func TestLookTakesWhatIsNotSafe(t *testing.T) {
	d := must(t, impl.Disk{Quota: 1000}, create("x"), put("x", logOf("V 5 1 0")), rename("x", "index"), create("mbox.0"), put("mbox.0", "rest"))
	wantView(t, d, impl.View{Kind: impl.KindMbox, Validity: 5, Next: 1})
	d = must(t, d, remove("index"))
	wantCode(t, d, impl.StoreNone)
}

func TestLongestMails(t *testing.T) {
	full := strings.Repeat("x", impl.MaxBody)
	index := func(text string, bare int) string {
		return logOf("V 5 1 0", fmt.Sprintf("A 1 0 0 %d %d", len(text), bare))
	}
	line := "From mail\n" + full + "\n\n"
	good := impl.View{Kind: impl.KindMbox, Validity: 5, Next: 2, Mails: []impl.Mail{{Uid: 1, Body: []byte(full)}}}
	wantView(t, diskOf("index", index(line, 1), "mbox.0", line), good)
	wantCode(t, diskOf("index", index(line, 0), "mbox.0", line), impl.StoreCorrupt)
	longer := "From mail\nx" + full + "\n\n"
	wantCode(t, diskOf("index", index(longer, 1), "mbox.0", longer), impl.StoreCorrupt)
	// Quoting makes an entry longer, not the body.
	quoted := strings.Repeat("From \n", impl.MaxBody/6) + "\n\n"
	text := mboxOf(quoted)
	good.Mails[0].Body = []byte(quoted)
	wantView(t, diskOf("index", index(text, 0), "mbox.0", text), good)

	good = impl.View{Kind: impl.KindMaildir, Validity: 5, Next: 2, Mails: []impl.Mail{{Uid: 1, Body: []byte(full)}}}
	wantView(t, diskOf("uidlist", logOf("V 5 1"), "cur/1.0:2,", full), good)
	wantCode(t, diskOf("uidlist", logOf("V 5 1"), "cur/1.0:2,", full+"x"), impl.StoreCorrupt)
	// Of a dead card the length is nothing's.
	wantView(t, diskOf("uidlist", logOf("V 5 1", "X 2 1"), "cur/1.0:2,", full+"x"), impl.View{Kind: impl.KindMaildir, Validity: 5, Next: 2})

	moved := []string{"index", index(line, 1), "mbox.0", line, "cursor", logOf("B", "C 1")}
	good = impl.View{Kind: impl.KindMoving, Validity: 5, Next: 2, Cursor: 1, Mails: []impl.Mail{{Uid: 1, Body: []byte(full)}}}
	wantView(t, diskOf(append(moved, "cur/1.0:2,", full)...), good)
	wantCode(t, diskOf(append(moved, "cur/1.0:2,", full+"x")...), impl.StoreCorrupt)
}

func TestUidlistsThatAreSound(t *testing.T) {
	look := func(next uint32, mails ...impl.Mail) impl.View {
		return impl.View{Kind: impl.KindMaildir, Validity: 5, Next: next, Mails: mails}
	}
	one := impl.Mail{Uid: 3, Stamp: 7, Flags: impl.FlagSeen, Body: []byte("a")}
	two := impl.Mail{Uid: 20, Stamp: 1, Body: []byte("b")}
	for _, row := range []struct {
		records string
		cards   string
		want    impl.View
	}{
		{"V 5 1", "", look(1)},
		{"V 5 4294967295", "", look(4294967295)},
		{"V 5 1", "cur/3.7:2,S|a", look(4, one)},
		{"V 5 9", "cur/3.7:2,S|a", look(9, one)},
		// In the order of uids, which is not that of names.
		{"V 5 1", "cur/3.7:2,S|a|cur/20.1:2,|b", look(21, one, two)},
		{"V 5 1|X 4 1 2", "cur/3.7:2,S|a", look(4, one)},
		{"V 5 1|X 4 1|X 4 2|X 9 8", "cur/3.7:2,S|a", look(9, one)},
		{"V 5 1|X 4294967295 1 4294967294", "cur/3.7:2,S|a", look(4294967295, one)},
		// One uid in two records, and dead cards, live ones beside them.
		{"V 5 1|X 30 20|X 30 20", "cur/3.7:2,S|a|cur/20.1:2,|b", look(30, one)},
		{"V 5 1|X 30 20", "cur/20.1:2,|b|cur/20.1:2,S|b|cur/20.2:2,|b", look(30)},
		{"V 5 1|X 4 1 2 3", "cur/1.0:2,||cur/2.0:2,|", look(4)},
		// Names that are no cards.
		{"V 5 1", "cur/3.7:2,S|a|cur/03.7:2,|x|cur/4.7:2,SS|x|cur/5.7|x|tmp/6|x|cur/0.7:2,|x|mbox.0|x", look(4, one)},
		{"V 5 1", "cur/4294967294.0:2,|", look(4294967295, impl.Mail{Uid: 4294967294})},
	} {
		var cards []string
		if row.cards != "" {
			cards = strings.Split(row.cards, "|")
		}
		wantView(t, maildirDisk(strings.Split(row.records, "|"), cards...), row.want)
	}
}

func manyCards(n int) []string {
	var pairs []string
	for i := range n {
		pairs = append(pairs, fmt.Sprintf("cur/%d.0:2,", i+1), "")
	}
	return pairs
}

func TestUidlistsThatAreNotSound(t *testing.T) {
	for _, records := range []string{
		"X 3 1", "A 1 0 0 11 0", "B", "V", "V 5", "V 5 1 0", "V 0 1", "V 5 0", "V 4294967296 1", "V 5 4294967296", "V 05 1", "V 5 01", " V 5 1", "V 5 1 ", "V  5 1", "v 5 1", "V 5 1\n",
		"V 5 1|V 5 1", "V 5 1|C 1", "V 5 1|x 3 1", "V 5 1|X", "V 5 1|X 3", "V 5 1|X 3 ", "V 5 1|X 3  1", "V 5 1|X 3 1 ", "V 5 1| X 3 1",
		"V 5 1|X 3 0", "V 5 1|X 3 3", "V 5 1|X 3 4", "V 5 1|X 3 1 3", "V 5 1|X 3 1 1", "V 5 1|X 3 2 1", "V 5 1|X 9 1 3 2", "V 5 1|X 3 01", "V 5 1|X 03 1", "V 5 1|X 3 x", "V 5 1|X 4294967296 1", "V 5 1|X 0 1", "V 5 1|X 4294967295 4294967295",
		"V 5 4|X 3 1", "V 5 1|X 5 1|X 4 2", "V 5 1|X 5 1|X 5 2|X 4 2",
	} {
		t.Run(records, func(t *testing.T) {
			wantCode(t, maildirDisk(strings.Split(records, "|")), impl.StoreCorrupt)
		})
	}
	wantCode(t, diskOf("uidlist", ""), impl.StoreCorrupt)
	wantCode(t, diskOf("uidlist", "junk"), impl.StoreCorrupt)
}

func TestCardsThatAreCorrupt(t *testing.T) {
	none := []string{"V 5 1"}
	wantCode(t, maildirDisk(none, "cur/1.0:2,", "", "cur/1.0:2,S", ""), impl.StoreCorrupt)
	wantCode(t, maildirDisk(none, "cur/1.0:2,", "", "cur/10.0:2,", "", "cur/1.1:2,", ""), impl.StoreCorrupt)
	wantCode(t, maildirDisk(none, "cur/4294967295.0:2,", ""), impl.StoreCorrupt)
	wantCode(t, maildirDisk(none, manyCards(101)...), impl.StoreCorrupt)
	wantView(t, maildirDisk(none, manyCards(100)...), impl.View{Kind: impl.KindMaildir, Validity: 5, Next: 101, Mails: emptyMails(100)})
	// A hundred live ones, and dead ones between and behind them.
	d := maildirDisk([]string{"V 5 1", "X 151 101 150"}, append(manyCards(101), "cur/150.0:2,", "", "cur/150.1:2,", "")...)
	wantView(t, d, impl.View{Kind: impl.KindMaildir, Validity: 5, Next: 151, Mails: emptyMails(100)})
}

// movingDisk has the mails 1 and 3 in its index, and a cursor.
func movingDisk(cursor string, cards ...string) impl.Disk {
	pairs := []string{
		"index", logOf("V 5 1 0", "A 1 10 1 13 0", "A 3 30 2 13 1", "F 3 6"),
		"mbox.0", "From mail\na\n\nFrom mail\nc\n\n",
		"cursor", logOf(strings.Split(cursor, "|")...),
	}
	return diskOf(append(pairs, cards...)...)
}

func TestMovingMailboxes(t *testing.T) {
	a := impl.Mail{Uid: 1, Stamp: 10, Flags: 1, Body: []byte("a\n")}
	c := impl.Mail{Uid: 3, Stamp: 30, Flags: 6, Body: []byte("c")}
	moved := impl.Mail{Uid: 1, Stamp: 11, Flags: 8, Body: []byte("other")}
	for _, row := range []struct {
		d      impl.Disk
		cursor uint32
		mails  []impl.Mail
	}{
		{movingDisk("B"), 0, []impl.Mail{a, c}},
		{movingDisk("B", "cur/1.11:2,S", "other"), 0, []impl.Mail{a, c}},
		{movingDisk("B", "cur/1.11:2,S", "other", "cur/1.11:2,", "other"), 0, []impl.Mail{a, c}},
		{movingDisk("B|C 1", "cur/1.11:2,S", "other"), 1, []impl.Mail{moved, c}},
		{movingDisk("B|C 1", "cur/1.11:2,S", "other", "cur/3.0:2,", ""), 1, []impl.Mail{moved, c}},
		{movingDisk("B|C 2", "cur/1.11:2,S", "other", "cur/2.0:2,", "", "cur/2.1:2,", ""), 2, []impl.Mail{moved, c}},
		{movingDisk("B|C 1|C 3", "cur/1.11:2,S", "other", "cur/3.0:2,", ""), 3, []impl.Mail{moved, {Uid: 3}}},
		{movingDisk("B|C 4294967295", "cur/1.11:2,S", "other", "cur/3.0:2,", ""), 4294967295, []impl.Mail{moved, {Uid: 3}}},
	} {
		wantView(t, row.d, impl.View{Kind: impl.KindMoving, Validity: 5, Next: 4, Cursor: row.cursor, Mails: row.mails})
	}
}

func TestMovingMailboxesThatAreCorrupt(t *testing.T) {
	for _, cursor := range []string{"C 1", "C 1|B", "b", "B 1", "B ", " B", "B|B", "B|C", "B|C ", "B|C 0", "B|C 01", "B|C 4294967296", "B|C 1 1", "B|C  1", "B|c 1", "B|F 1 0", "B|C 1|C 1", "B|C 2|C 1", "V 5 1 0"} {
		t.Run(cursor, func(t *testing.T) {
			wantCode(t, movingDisk(cursor, "cur/1.0:2,", "", "cur/3.0:2,", ""), impl.StoreCorrupt)
		})
	}
	wantCode(t, diskOf("index", logOf("V 5 1 0"), "mbox.0", "", "cursor", ""), impl.StoreCorrupt)
	wantCode(t, diskOf("index", logOf("V 5 1"), "mbox.0", "", "cursor", logOf("B")), impl.StoreCorrupt)
	// No card of a mail that has moved, or two.
	wantCode(t, movingDisk("B|C 1"), impl.StoreCorrupt)
	wantCode(t, movingDisk("B|C 3", "cur/1.0:2,", ""), impl.StoreCorrupt)
	wantCode(t, movingDisk("B|C 3", "cur/3.0:2,", ""), impl.StoreCorrupt)
	wantCode(t, movingDisk("B|C 3", "cur/1.0:2,", "", "cur/4.0:2,", ""), impl.StoreCorrupt)
	wantCode(t, movingDisk("B|C 1", "cur/1.0:2,", "", "cur/1.0:2,S", ""), impl.StoreCorrupt)
	wantCode(t, movingDisk("B|C 3", "cur/1.0:2,", "", "cur/3.0:2,S", "", "cur/3.1:2,", ""), impl.StoreCorrupt)
}

func TestFormats(t *testing.T) {
	for _, row := range []struct {
		kind, quota int
		validity    uint32
		want        string
	}{
		{impl.KindMbox, 1000, 5, files(diskOf("index", logOf("V 5 1 0"), "mbox.0", ""))},
		{impl.KindMaildir, 1000, 5, files(diskOf("uidlist", logOf("V 5 1")))},
		{impl.KindMbox, 22, 4294967295, files(diskOf("index", logOf("V 4294967295 1 0"), "mbox.0", ""))},
		{impl.KindMaildir, 20, 4294967295, files(diskOf("uidlist", logOf("V 4294967295 1")))},
		{impl.KindMbox, 13, 1, files(diskOf("index", logOf("V 1 1 0"), "mbox.0", ""))},
		{impl.KindMaildir, 11, 1, files(diskOf("uidlist", logOf("V 1 1")))},
		{impl.KindMbox, impl.MaxQuota, 1, files(diskOf("index", logOf("V 1 1 0"), "mbox.0", ""))},
	} {
		d := impl.Format(row.kind, row.validity, row.quota)
		want := strings.Replace(row.want, fmt.Sprint("quota ", impl.MaxQuota), fmt.Sprint("quota ", row.quota), 1)
		if files(d) != want || len(d.Pend) != 0 || !impl.DiskValid(d) {
			t.Errorf("kind %d: %s", row.kind, tell(d))
		}
		if tell(impl.DiskCrash(d, 0, nil)) != tell(d) {
			t.Errorf("kind %d: not all is safe, or not in order: %s", row.kind, tell(d))
		}
		wantView(t, d, impl.View{Kind: row.kind, Validity: row.validity, Next: 1})
	}
}

func TestFormatsThatAreRefused(t *testing.T) {
	for _, row := range []struct {
		kind     int
		validity uint32
		quota    int
	}{
		{impl.KindNone, 5, 1000}, {impl.KindMoving, 5, 1000}, {4, 5, 1000}, {-1, 5, 1000}, {impl.KindMbox, 0, 1000}, {impl.KindMaildir, 0, 1000},
		{impl.KindMbox, 1, 12}, {impl.KindMbox, 4294967295, 21}, {impl.KindMaildir, 1, 10}, {impl.KindMaildir, 4294967295, 19}, {impl.KindMbox, 1, 0}, {impl.KindMaildir, 1, -1}, {impl.KindMbox, 1, -1 << 63},
		{impl.KindMbox, 1, impl.MaxQuota + 1}, {impl.KindMaildir, 1, impl.MaxQuota + 1}, {impl.KindMbox, 1, 1<<63 - 1},
	} {
		if d := impl.Format(row.kind, row.validity, row.quota); tell(d) != tell(impl.Disk{}) {
			t.Errorf("%v: %s", row, tell(d))
		}
	}
}
