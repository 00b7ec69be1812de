package tests

import (
	"fmt"
	"strings"
	"testing"

	"loop.example/s02349/impl"
)

// twoMails has the mails 1 ("a\n", stamp 10, no flags) and 2 ("b", stamp 20,
// seen) in the form asked for.
func twoMails(t *testing.T, kind int) impl.Disk {
	t.Helper()
	return carried(t, formatted(t, kind), delivery("a\n", 10, 0), delivery("b", 20, impl.FlagSeen))
}

const twoTexts = "From mail\na\n\nFrom mail\nb\n\n"

func TestPlansOfDeliveries(t *testing.T) {
	d := twoMails(t, impl.KindMbox)
	for _, row := range []struct{ body, entry, record string }{
		{"", "From mail\n\n", "A 3 7 8 11 0"},
		{"\n", "From mail\n\n\n", "A 3 7 8 12 0"},
		{"x", "From mail\nx\n\n", "A 3 7 8 13 1"},
		{"x\n", "From mail\nx\n\n", "A 3 7 8 13 0"},
		{"From x", "From mail\n>From x\n\n", "A 3 7 8 19 1"},
		{">From \n\x00", "From mail\n>>From \n\x00\n\n", "A 3 7 8 21 1"},
	} {
		wantOps(t, d, delivery(row.body, 7, 8), 3, put("mbox.0", row.entry), syncing("mbox.0"), put("index", logOf(row.record)), syncing("index"))
	}
	wantOps(t, d, delivery("x", impl.MaxStamp, impl.AllFlags), 3, put("mbox.0", "From mail\nx\n\n"), syncing("mbox.0"), put("index", logOf("A 3 1000000000000 2147483647 13 1")), syncing("index"))
	d = twoMails(t, impl.KindMaildir)
	for _, body := range []string{"", "x", "x\n", "From x\n", ">From x\n\x00"} {
		wantOps(t, d, delivery(body, 7, 8), 3, create("tmp/3"), put("tmp/3", body), syncing("tmp/3"), rename("tmp/3", "cur/3.7:2,S"), dir())
	}
	full := "DFRSTabcdefghijklmnopqrstuvwxyz"
	wantOps(t, d, delivery("x", impl.MaxStamp, impl.AllFlags), 3, create("tmp/3"), put("tmp/3", "x"), syncing("tmp/3"), rename("tmp/3", "cur/3.1000000000000:2,"+full), dir())
	d = movingDisk("B|C 1", "cur/1.10:2,R", "a\n")
	wantOps(t, d, delivery("x", 0, 0), 4, put("mbox.0", "From mail\nx\n\n"), syncing("mbox.0"), put("index", logOf("A 4 0 0 13 1")), syncing("index"))
}

func TestPlansOfFlags(t *testing.T) {
	d := twoMails(t, impl.KindMbox)
	wantOps(t, d, flagging(1, 0), 0)
	wantOps(t, d, flagging(2, 8), 0)
	wantOps(t, d, flagging(2, 0), 0, put("index", logOf("F 2 0")), syncing("index"))
	wantOps(t, d, flagging(1, impl.AllFlags), 0, put("index", logOf("F 1 2147483647")), syncing("index"))
	d = carried(t, d, flagging(1, 9))
	wantOps(t, d, flagging(1, 9), 0)
	wantOps(t, d, flagging(1, 0), 0, put("index", logOf("F 1 0")), syncing("index"))

	d = twoMails(t, impl.KindMaildir)
	wantOps(t, d, flagging(1, 0), 0)
	wantOps(t, d, flagging(2, 8), 0)
	wantOps(t, d, flagging(2, 0), 0, rename("cur/2.20:2,S", "cur/2.20:2,"), dir())
	wantOps(t, d, flagging(1, 36), 0, rename("cur/1.10:2,", "cur/1.10:2,Ta"), dir())

	// The index still has mail 1 with the flags 1, its card has 8.
	d = movingDisk("B|C 1", "cur/1.11:2,S", "a\n")
	wantOps(t, d, flagging(1, 8), 0)
	wantOps(t, d, flagging(1, 1), 0, rename("cur/1.11:2,S", "cur/1.11:2,R"), dir())
	wantOps(t, d, flagging(3, 6), 0)
	wantOps(t, d, flagging(3, 2), 0, put("index", logOf("F 3 2")), syncing("index"))
}

func mboxRewritten(old, name, text string, records ...string) []impl.Op {
	ops := append(fileOp(name, text), fileOp("index.new", logOf(records...))...)
	return append(ops, dir(), rename("index.new", "index"), dir(), remove(old))
}

func TestPlansOfExpunges(t *testing.T) {
	d := carried(t, twoMails(t, impl.KindMbox), flagging(2, 4))
	b := "From mail\nb\n\n"
	wantOps(t, d, expunging(1), 0, append(mboxRewritten("mbox.0", "mbox.1", b, "V 5 3 1", "A 2 20 4 13 1"), dir())...)
	wantOps(t, d, expunging(2), 0, append(mboxRewritten("mbox.0", "mbox.1", twoTexts[:13], "V 5 3 1", "A 1 10 0 13 0"), dir())...)
	wantOps(t, d, expunging(1, 2), 0, append(mboxRewritten("mbox.0", "mbox.1", "", "V 5 3 1"), dir())...)
	for gen, next := range map[int]int{1: 2, 99998: 99999, 99999: 0} {
		old, name := fmt.Sprintf("mbox.%d", gen), fmt.Sprintf("mbox.%d", next)
		d = diskOf("index", logOf(fmt.Sprintf("V 5 9 %d", gen), "A 1 0 0 13 0", "A 2 0 0 13 1"), old, twoTexts)
		wantOps(t, d, expunging(1), 0, append(mboxRewritten(old, name, b, fmt.Sprintf("V 5 9 %d", next), "A 2 0 0 13 1"), dir())...)
		wantView(t, carried(t, d, expunging(1)), impl.View{Kind: impl.KindMbox, Validity: 5, Next: 9, Mails: []impl.Mail{{Uid: 2, Body: []byte("b")}}})
	}

	d = twoMails(t, impl.KindMaildir)
	wantOps(t, d, expunging(1), 0, put("uidlist", logOf("X 3 1")), syncing("uidlist"), remove("cur/1.10:2,"), dir())
	wantOps(t, d, expunging(1, 2), 0, put("uidlist", logOf("X 3 1 2")), syncing("uidlist"), remove("cur/1.10:2,"), remove("cur/2.20:2,S"), dir())
	// Uids rise as numbers, names as texts.
	d = maildirDisk([]string{"V 5 1"}, "cur/9.0:2,", "", "cur/10.0:2,", "", "cur/100.0:2,", "")
	wantOps(t, d, expunging(9, 10, 100), 0, put("uidlist", logOf("X 101 9 10 100")), syncing("uidlist"), remove("cur/10.0:2,"), remove("cur/100.0:2,"), remove("cur/9.0:2,"), dir())

	// What the index tells of mails that have moved is old, and stays so.
	d = movingDisk("B|C 1", "cur/1.11:2,S", "a\n")
	a, c := "A 1 10 1 13 0", "A 3 30 6 13 1"
	wantOps(t, d, expunging(3), 0, append(mboxRewritten("mbox.0", "mbox.1", "From mail\na\n\n", "V 5 4 1", a), dir())...)
	wantOps(t, d, expunging(1), 0, append(mboxRewritten("mbox.0", "mbox.1", "From mail\nc\n\n", "V 5 4 1", c), remove("cur/1.11:2,S"), dir())...)
	wantOps(t, d, expunging(1, 3), 0, append(mboxRewritten("mbox.0", "mbox.1", "", "V 5 4 1"), remove("cur/1.11:2,S"), dir())...)
}

func TestPlansOfMoves(t *testing.T) {
	d := twoMails(t, impl.KindMbox)
	wantOps(t, d, moveStep(), 0, append(fileOp("cursor.new", logOf("B")), rename("cursor.new", "cursor"), dir())...)
	d = carried(t, d, moveStep())
	wantOps(t, d, moveStep(), 0, append(fileOp("tmp/1", "a\n"), rename("tmp/1", "cur/1.10:2,"), dir(), put("cursor", logOf("C 1")), syncing("cursor"))...)
	d = carried(t, d, moveStep(), flagging(2, 9))
	wantOps(t, d, moveStep(), 0, append(fileOp("tmp/2", "b"), rename("tmp/2", "cur/2.20:2,RS"), dir(), put("cursor", logOf("C 2")), syncing("cursor"))...)
	d = carried(t, d, moveStep())
	wantOps(t, d, moveStep(), 0, append(fileOp("uidlist.new", logOf("V 5 3")),
		rename("uidlist.new", "uidlist"), dir(), remove("index"), dir(), remove("cursor"), remove("mbox.0"), dir())...)
	wantOps(t, carried(t, d, moveStep()), moveStep(), 0)
}

func TestRequestsThatAreBad(t *testing.T) {
	long := delivery(strings.Repeat("x", impl.MaxBody+1), 0, 0)
	for _, kind := range []int{impl.KindMbox, impl.KindMaildir} {
		d := twoMails(t, kind)
		for _, r := range []impl.Req{
			{}, {Kind: -1}, {Kind: 5}, {Kind: 1 << 40, Uid: 1},
			long, delivery("x", -1, 0), delivery("x", impl.MaxStamp+1, 0), delivery("x", -1<<63, 0), delivery("x", 0, 1<<31), delivery("x", 0, 1<<31+1),
			flagging(1, 1<<31), flagging(1, 1<<32-1), expunging(), expunging(1, 1), expunging(2, 1), expunging(1, 2, 2),
			// A mail that is not there is asked for later.
			flagging(9, 1<<31), expunging(9, 9), expunging(9, 1), expunging(0, 0),
		} {
			wantRefused(t, d, r, impl.StoreBadReq)
		}
		for _, r := range []impl.Req{
			flagging(0, 0), flagging(3, 0), flagging(4294967295, impl.AllFlags), expunging(3), expunging(0), expunging(0, 1), expunging(1, 2, 3), expunging(1, 3, 4294967295),
		} {
			wantRefused(t, d, r, impl.StoreNoMail)
		}
	}
}

// What a request's kind does not name is not looked at.
func TestFieldsThatAreNotAsked(t *testing.T) {
	noise := impl.Req{Body: make([]byte, impl.MaxBody+1), Stamp: -1, Flags: 1 << 31, Uid: 99, Uids: []uint32{9, 9}}
	for _, kind := range []int{impl.KindMbox, impl.KindMaildir} {
		d := twoMails(t, kind)
		for _, plain := range []impl.Req{delivery("x", 1, 2), flagging(1, 2), expunging(1), moveStep()} {
			noisy := noise
			noisy.Kind = plain.Kind
			switch plain.Kind {
			case impl.ReqDeliver:
				noisy.Body, noisy.Stamp, noisy.Flags = plain.Body, plain.Stamp, plain.Flags
			case impl.ReqFlags:
				noisy.Uid, noisy.Flags = plain.Uid, plain.Flags
			case impl.ReqExpunge:
				noisy.Uids = plain.Uids
			}
			want := impl.PlanOf(d, plain)
			wantOps(t, d, noisy, want.Uid, want.Ops...)
		}
	}
}

func TestRequestsOnOtherDisks(t *testing.T) {
	bad := twoMails(t, impl.KindMbox)
	bad.Quota = -1
	for _, r := range []impl.Req{{}, delivery("x", 1, 0), delivery("x", -1, 0), flagging(9, 0), expunging(), moveStep()} {
		wantRefused(t, bad, r, impl.StoreBadDisk)
		wantRefused(t, diskOf("mbox.0", "rest"), r, impl.StoreNone)
		wantRefused(t, impl.Disk{}, r, impl.StoreNone)
		wantRefused(t, diskOf("index", "junk", "mbox.0", "rest"), r, impl.StoreCorrupt)
		wantRefused(t, diskOf("uidlist", "junk"), r, impl.StoreCorrupt)
		wantRefused(t, movingDisk("B|C 1"), r, impl.StoreCorrupt)
	}
}

func TestTheEndOfUids(t *testing.T) {
	for _, row := range []struct{ last, end impl.Disk }{
		{mboxDisk("", "V 5 4294967294 0"), mboxDisk("", "V 5 4294967295 0")},
		{maildirDisk([]string{"V 5 4294967294"}), maildirDisk([]string{"V 5 4294967295"})},
		{mboxDisk(entry, "V 5 1 0", "A 4294967293 0 0 11 0"), mboxDisk(entry, "V 5 1 0", "A 4294967294 0 0 11 0")},
		{maildirDisk([]string{"V 5 1"}, "cur/4294967293.0:2,", ""), maildirDisk([]string{"V 5 1"}, "cur/4294967294.0:2,", "")},
	} {
		got := impl.Apply(row.last, delivery("x", 1, 0))
		if got.Code != impl.StoreOK || got.Uid != 4294967294 || impl.Look(got.Disk).Next != 4294967295 {
			t.Errorf("the last uid: code %d uid %d next %d", got.Code, got.Uid, impl.Look(got.Disk).Next)
		}
		for _, d := range []impl.Disk{row.end, got.Disk} {
			wantRefused(t, d, delivery("x", 1, 0), impl.StoreEnd)
			wantRefused(t, d, delivery("x", -1, 0), impl.StoreBadReq)
			full := copyDisk(d)
			full.Quota = 0
			wantRefused(t, full, delivery("x", 1, 0), impl.StoreEnd)
		}
	}
}

func TestTheMostMails(t *testing.T) {
	for _, d := range []impl.Disk{
		mboxDisk(strings.Repeat(entry, 99), manyMails(99)...),
		maildirDisk([]string{"V 5 1"}, manyCards(99)...),
	} {
		d = carried(t, d, delivery("x", 1, 0))
		if got := len(impl.Look(d).Mails); got != 100 {
			t.Fatal(got, "mails")
		}
		wantRefused(t, d, delivery("x", 1, 0), impl.StoreEnd)
		wantRefused(t, d, delivery("x", 1, 1<<31), impl.StoreBadReq)
		full := copyDisk(d)
		full.Quota = 0
		wantRefused(t, full, delivery("x", 1, 0), impl.StoreEnd)
		// With one less there is room again, for the next uid, not for the old one.
		d = carried(t, d, expunging(100))
		if got := impl.Apply(d, delivery("x", 1, 0)); got.Code != impl.StoreOK || got.Uid != 101 {
			t.Errorf("code %d uid %d", got.Code, got.Uid)
		}
	}
}

// All mails at once, with the longest uids that there are.
func TestTheLongestRecordOfTheDead(t *testing.T) {
	var cards []string
	var uids []uint32
	for i := range 100 {
		uids = append(uids, uint32(4294967195+i))
		cards = append(cards, impl.MailName(uids[i], 0, 0), "")
	}
	d := carried(t, maildirDisk([]string{"V 5 1"}, cards...), expunging(uids...))
	wantView(t, d, impl.View{Kind: impl.KindMaildir, Validity: 5, Next: 4294967295})
}

func TestTheLongestBodiesComeIn(t *testing.T) {
	for _, kind := range []int{impl.KindMbox, impl.KindMaildir} {
		for _, body := range []string{strings.Repeat("x", impl.MaxBody), strings.Repeat("\n", impl.MaxBody), strings.Repeat("From \n", impl.MaxBody/6) + "ab"} {
			d := carried(t, formatted(t, kind), delivery(body, 0, 0))
			wantView(t, d, impl.View{Kind: kind, Validity: 5, Next: 2, Mails: []impl.Mail{{Uid: 1, Body: []byte(body)}}})
			wantRefused(t, d, delivery(body+"\n", 0, 0), impl.StoreBadReq)
		}
	}
}

// mostUsed is how many bytes a plan has in use when it has most.
func mostUsed(t *testing.T, d impl.Disk, ops []impl.Op) int {
	t.Helper()
	most, _ := modelUsed(d)
	for i := range ops {
		got := modelDo(d, ops[:i+1])
		if got.Code != impl.DiskOK {
			t.Fatalf("operation %d: code %d", i, got.Code)
		}
		used, _ := modelUsed(got.Disk)
		most = max(most, used)
	}
	return most
}

func TestJustEnoughRoom(t *testing.T) {
	torn := diskOf("index", logOf("V 5 1 0", "A 1 0 0 13 0")+"torn", "mbox.0", "From mail\na\n\nmore", "stray", "xyz")
	for i, row := range []struct {
		d impl.Disk
		r impl.Req
	}{
		{twoMails(t, impl.KindMbox), delivery("", 1, 0)},
		{twoMails(t, impl.KindMbox), delivery("xyz", 1, 0)},
		{twoMails(t, impl.KindMbox), flagging(1, 4)},
		{twoMails(t, impl.KindMbox), expunging(1)},
		{twoMails(t, impl.KindMbox), expunging(1, 2)},
		{twoMails(t, impl.KindMbox), moveStep()},
		{twoMails(t, impl.KindMaildir), delivery("xyz", 1, 0)},
		{twoMails(t, impl.KindMaildir), expunging(1)},
		{movingDisk("B"), moveStep()},
		{movingDisk("B|C 1", "cur/1.0:2,", "a"), expunging(1)},
		{torn, delivery("x", 1, 0)},
		{torn, flagging(1, 0)},
		{torn, expunging(1)},
	} {
		most := mostUsed(t, row.d, impl.PlanOf(row.d, row.r).Ops)
		if used, _ := modelUsed(row.d); most == used {
			t.Fatal(i, "asks for nothing")
		}
		d := copyDisk(row.d)
		d.Quota = most
		if got := impl.Apply(d, row.r); got.Code != impl.StoreOK {
			t.Errorf("%d: code %d where %d bytes do", i, got.Code, most)
		}
		d.Quota--
		wantRefused(t, d, row.r, impl.StoreSpace)
	}
}

// Renaming a card takes no room, even where there is less than none.
func TestFlagsOfCardsTakeNoRoom(t *testing.T) {
	d := twoMails(t, impl.KindMaildir)
	d.Quota = 0
	if got := impl.Apply(d, flagging(1, 4)); got.Code != impl.StoreOK || impl.Look(got.Disk).Mails[0].Flags != 4 {
		t.Error("code", got.Code)
	}
	wantRefused(t, d, delivery("x", 1, 0), impl.StoreSpace)
	wantRefused(t, d, flagging(9, 4), impl.StoreNoMail)
}

// The limits of the disk other than the quota are StoreSpace, too.
func TestLimitsOfTheDisk(t *testing.T) {
	d := formatted(t, impl.KindMbox)
	for range 4 {
		d = carried(t, d, delivery(strings.Repeat("x", impl.MaxBody), 0, 0))
	}
	left := impl.MaxFileLen - len(impl.DiskRead(d, "mbox.0").Data) - len(entry) - 1
	wantRefused(t, d, delivery(strings.Repeat("x", left+1), 0, 0), impl.StoreSpace)
	d = carried(t, d, delivery(strings.Repeat("x", left), 0, 0))
	if got := len(impl.DiskRead(d, "mbox.0").Data); got != impl.MaxFileLen {
		t.Fatal("the text has", got, "bytes")
	}
	wantRefused(t, d, delivery("", 0, 0), impl.StoreSpace)
	carried(t, d, flagging(1, 1), expunging(1, 2, 3, 4, 5))

	records := []string{"V 5 1 0", "A 1 0 0 11 0"}
	for size := len(logOf(records...)); size+11 <= impl.MaxFileLen; size += 11 {
		records = append(records, "F 1 0")
	}
	d = mboxDisk(entry, records...)
	wantRefused(t, d, flagging(1, 1), impl.StoreSpace)
	wantView(t, carried(t, d, expunging(1)), impl.View{Kind: impl.KindMbox, Validity: 5, Next: 2})

	d = twoMails(t, impl.KindMaildir)
	for range impl.MaxPend / 2 {
		d = must(t, d, rename("cur/1.10:2,", "cur/1.10:2,S"), rename("cur/1.10:2,S", "cur/1.10:2,"))
	}
	wantRefused(t, d, flagging(1, 1), impl.StoreSpace)
	wantRefused(t, d, delivery("x", 0, 0), impl.StoreSpace)
	wantOps(t, d, flagging(1, 0), 0)
}
