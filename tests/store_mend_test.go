package tests

import (
	"testing"

	"loop.example/s02349/impl"
)

// wantMended asks for the very operations, and that they are done ahead of
// those of a request.
func wantMended(t *testing.T, d impl.Disk, ops ...impl.Op) {
	t.Helper()
	if got := impl.Mend(d); tellOps(got) != tellOps(ops) {
		t.Errorf("%swant\n%s", tellOps(got), tellOps(ops))
	}
	mended := must(t, d, ops...)
	if tellView(impl.Look(mended)) != tellView(impl.Look(d)) {
		t.Errorf("mending changes the mailbox:\n%s", tellView(impl.Look(mended)))
	}
	if again := impl.Mend(mended); len(again) != 0 {
		t.Errorf("mended, it is to be mended again:\n%s", tellOps(again))
	}
	if got := impl.Recover(d); got.Code != impl.StoreOK || got.Uid != 0 || tell(got.Disk) != tell(mended) {
		t.Errorf("code %d uid %d\n%s", got.Code, got.Uid, tell(got.Disk))
	}
	for _, r := range []impl.Req{delivery("x", 1, 0), moveStep()} {
		own := impl.PlanOf(mended, r)
		wantOps(t, d, r, own.Uid, append(append([]impl.Op(nil), ops...), own.Ops...)...)
	}
}

func anew(name, data string) []impl.Op {
	return append(fileOp(name+".new", data), rename(name+".new", name), dir())
}

func TestMendingMbox(t *testing.T) {
	index, text := logOf("V 5 1 7", "A 1 0 0 11 0"), entry
	wantMended(t, diskOf("index", index, "mbox.7", text))
	wantMended(t, diskOf("index", index+"x", "mbox.7", text), anew("index", index)...)
	wantMended(t, diskOf("index", index, "mbox.7", text+"x"), anew("mbox.7", text)...)
	wantMended(t, diskOf("index", index+"x", "mbox.7", text+"x"), append(anew("index", index), anew("mbox.7", text)...)...)
	wantMended(t, diskOf("index", logOf("V 5 1 0"), "mbox.0", "x"), anew("mbox.0", "")...)
	// Names that are not of the form go, in rising order.
	wantMended(t, diskOf("index", index, "mbox.7", text, "uidlist", "", "a", "", "cur/1.0:2,", "x", "mbox.8", text, "index.new", "", "mbox.7.new", "", "cursor.new", "", "tmp/1", ""),
		remove("a"), remove("cur/1.0:2,"), remove("cursor.new"), remove("index.new"), remove("mbox.7.new"), remove("mbox.8"), remove("tmp/1"), remove("uidlist"), dir())
	// A name that mending uses itself is gone by then.
	wantMended(t, diskOf("index", index+"x", "mbox.7", text, "index.new", "old", "mbox.7.new", "old"),
		append(anew("index", index), remove("mbox.7.new"), dir())...)
	wantMended(t, diskOf("index", index+"x", "mbox.7", text+"x", "index.new", "old", "mbox.7.new", "old"),
		append(anew("index", index), anew("mbox.7", text)...)...)
}

func TestMendingMaildir(t *testing.T) {
	log := logOf("V 5 1", "X 4 2")
	wantMended(t, diskOf("uidlist", log, "cur/1.0:2,", "a"))
	wantMended(t, diskOf("uidlist", log+"x", "cur/1.0:2,", "a"), anew("uidlist", log)...)
	wantMended(t, diskOf("uidlist", log+"x", "uidlist.new", "old", "cur/1.0:2,", "a", "cur/2.0:2,", "dead", "cur/3.0:2,S", "", "index.new", "", "mbox.0", "", "cursor", "", "cur/x", "", "tmp/2", ""),
		append(anew("uidlist", log), remove("cur/2.0:2,"), remove("cur/x"), remove("cursor"), remove("index.new"), remove("mbox.0"), remove("tmp/2"), dir())...)
}

func TestMendingMoving(t *testing.T) {
	index := logOf("V 5 1 0", "A 1 0 0 11 0", "A 3 0 0 11 0")
	text, cursor := entry+entry, logOf("B", "C 1")
	wantMended(t, diskOf("index", index, "mbox.0", text, "cursor", cursor, "cur/1.0:2,", ""))
	wantMended(t, diskOf("index", index+"x", "mbox.0", text+"y", "cursor", cursor+"z", "cur/1.0:2,", ""),
		append(append(anew("index", index), anew("cursor", cursor)...), anew("mbox.0", text)...)...)
	// Cards of mails that have not moved, or are none, are not of the form.
	wantMended(t, diskOf("index", index, "mbox.0", text, "cursor", logOf("B", "C 2"), "cur/1.0:2,", "", "cur/2.0:2,", "", "cur/3.0:2,", "", "cur/9.0:2,", "", "uidlist", ""),
		remove("cur/2.0:2,"), remove("cur/3.0:2,"), remove("cur/9.0:2,"), remove("uidlist"), dir())
}

func TestRecoveriesThatAreRefused(t *testing.T) {
	bad := mboxDisk("", "V 5 1 0")
	bad.Quota = -1
	for _, row := range []struct {
		d    impl.Disk
		code int
	}{
		{bad, impl.StoreBadDisk},
		{impl.Disk{}, impl.StoreNone},
		{diskOf("stray", "x"), impl.StoreNone},
		{diskOf("index", "junk", "stray", "x"), impl.StoreCorrupt},
		{diskOf("uidlist", "junk"), impl.StoreCorrupt},
	} {
		want := row.d
		if row.code == impl.StoreBadDisk {
			want = impl.Disk{}
		}
		got := impl.Recover(row.d)
		if got.Code != row.code || got.Uid != 0 || tell(got.Disk) != tell(want) {
			t.Errorf("code %d uid %d, want code %d\n%s", got.Code, got.Uid, row.code, tell(got.Disk))
		}
		if ops := impl.Mend(row.d); len(ops) != 0 {
			t.Errorf("code %d, but to be mended:\n%s", row.code, tellOps(ops))
		}
		if got := impl.Survive(row.d, delivery("x", 1, 0), 1, 1, nil); got.Code != row.code || got.Uid != 0 || tell(got.Disk) != tell(want) {
			t.Errorf("code %d uid %d, want code %d\n%s", got.Code, got.Uid, row.code, tell(got.Disk))
		}
	}
	full := diskOf("index", logOf("V 5 1 0")+"x", "mbox.0", "")
	full.Quota = len(logOf("V 5 1 0"))*2 + 1
	if got := impl.Recover(full); got.Code != impl.StoreOK {
		t.Error("code", got.Code, "where there is room")
	}
	full.Quota--
	if got := impl.Recover(full); got.Code != impl.StoreSpace || got.Uid != 0 || tell(got.Disk) != tell(full) {
		t.Errorf("code %d uid %d\n%s", got.Code, got.Uid, tell(got.Disk))
	}
	wantRefused(t, full, flagging(1, 0), impl.StoreNoMail)
	wantRefused(t, full, delivery("", 0, 0), impl.StoreSpace)
}
