package tests

import (
	"fmt"
	"strings"
	"testing"

	"loop.example/s02349/impl"
)

// threeMails is of the mbox form: a mail with flags of its own, one whose body
// is quoted and bare, an empty one.
func threeMails(t *testing.T) impl.Disk {
	t.Helper()
	return carried(t, formatted(t, impl.KindMbox), delivery("a\n", 10, 1), delivery("From b", 20, 0), delivery("", 30, impl.FlagSeen), flagging(2, impl.FlagDraft))
}

func stepped(t *testing.T, d impl.Disk, steps int) impl.Disk {
	t.Helper()
	for range steps {
		d = carried(t, d, moveStep())
	}
	return d
}

// moveStages are all that a move of three mails goes through: the mbox form,
// moving with none to all of the mails moved, the maildir form.
func moveStages(t *testing.T) []impl.Disk {
	t.Helper()
	var list []impl.Disk
	for steps := range 6 {
		list = append(list, stepped(t, threeMails(t), steps))
	}
	return list
}

// wantHouse asks that nothing is left but the mails' cards and the uidlist.
func wantHouse(t *testing.T, d impl.Disk, want impl.View) {
	t.Helper()
	want.Kind, want.Cursor = impl.KindMaildir, 0
	wantView(t, d, want)
	pairs := []string{"uidlist", logOf(fmt.Sprintf("V %d %d", want.Validity, want.Next))}
	for _, m := range want.Mails {
		pairs = append(pairs, impl.MailName(m.Uid, m.Stamp, m.Flags), string(m.Body))
	}
	if got, want := files(d), files(diskOf(pairs...)); got != want {
		t.Errorf("%s\nwant\n%s", got, want)
	}
}

// Promise 9: n + 2 steps, and any number of steps more.
func TestMovesOfNoneOneAndMany(t *testing.T) {
	for _, n := range []int{0, 1, 2, 17, impl.MaxMails} {
		d := formatted(t, impl.KindMbox)
		for i := range n {
			d = carried(t, d, delivery(strings.Repeat(">From x\n", i%4)+"end\n"[:i%5], int64(i), uint32(i)))
		}
		want := impl.Look(d)
		for step := range n + 2 {
			if got := impl.Look(d); got.Kind == impl.KindMaildir {
				t.Fatalf("%d mails: the maildir form behind %d steps", n, step)
			}
			d = carried(t, d, moveStep())
			if got := tellMails(impl.Look(d)); got != tellMails(want) {
				t.Fatalf("%d mails, step %d:\n%.2000s\nwant\n%.2000s", n, step, got, tellMails(want))
			}
		}
		wantHouse(t, d, want)
		if again := stepped(t, d, 3); tell(again) != tell(d) {
			t.Errorf("%d mails: further steps change the disk", n)
		}
	}
}

// A mailbox whose mails have all gone is moved like one that never had any.
func TestMovesOfExpungedMailboxes(t *testing.T) {
	for steps := range 6 {
		d := carried(t, stepped(t, threeMails(t), steps), expunging(1, 2, 3))
		kind := impl.Look(d).Kind
		for range 2 {
			d = carried(t, d, moveStep())
		}
		if got := impl.Look(d); got.Kind != impl.KindMaildir || len(got.Mails) != 0 || got.Next != 4 {
			t.Errorf("expunged behind %d steps, in kind %d: %s", steps, kind, tellView(got))
		}
		if got := impl.Apply(d, delivery("x", 0, 0)); got.Uid != 4 {
			t.Errorf("expunged behind %d steps: uid %d", steps, got.Uid)
		}
	}
}

// stageRequests are of each kind, on each mail and on each set of mails, those
// that are refused among them.
func stageRequests() []impl.Req {
	list := []impl.Req{
		moveStep(), delivery("new", 40, 2), delivery("", 0, 0), delivery("From x\n", impl.MaxStamp, impl.AllFlags),
		expunging(1), expunging(2), expunging(3), expunging(1, 2), expunging(1, 3), expunging(2, 3), expunging(1, 2, 3),
		expunging(), expunging(4), expunging(2, 1), expunging(1, 4), flagging(4, 0), flagging(1, 1<<31), delivery("x", -1, 0), {}, {Kind: 5},
	}
	for uid := uint32(1); uid <= 3; uid++ {
		for _, flags := range []uint32{0, 1, 8, 16, impl.AllFlags} {
			list = append(list, flagging(uid, flags))
		}
	}
	return list
}

// Promises 8 and 9: each request between any two steps, and the move goes on.
func TestEachRequestAtEachStep(t *testing.T) {
	for steps, d := range moveStages(t) {
		for _, r := range stageRequests() {
			want := impl.Look(d)
			code := plainCode(want, r)
			if code != impl.StoreOK {
				wantRefused(t, d, r, code)
				continue
			}
			wantOps(t, d, r, impl.PlanOf(d, r).Uid, plainOwn(d, r)...)
			after := carried(t, d, r)
			if r.Kind != impl.ReqMove {
				want = plainDo(want, r)
				kept := impl.Look(d)
				want.Kind, want.Cursor = kept.Kind, kept.Cursor
				wantView(t, after, want)
			}
			left := 0
			for impl.Look(after).Kind != impl.KindMaildir && left < 9 {
				after = carried(t, after, moveStep())
				left++
				if got := tellMails(impl.Look(after)); got != tellMails(want) {
					t.Fatalf("behind %d steps, %s, %d steps more:\n%s\nwant\n%s", steps, tellReq(r), left, got, tellMails(want))
				}
			}
			if steps < 5 {
				wantHouse(t, after, want)
			}
		}
	}
}

// A crash, or a hand, may leave a card of a mail that has not moved: the move
// of that mail begins with taking it away.
func TestStepsOverStrays(t *testing.T) {
	for steps, d := range moveStages(t) {
		want := impl.Look(d)
		stray := must(t, d, create("cur/9.9:2,"), put("cur/9.9:2,", "no mail"), create("tmp/2"), create("uidlist.new"), create("cursor.new"), create("index.new"), create("mbox.0.new"), dir())
		if want.Kind == impl.KindMaildir {
			stray = must(t, stray, remove("cur/9.9:2,"))
		} else if want.Cursor < 3 {
			stray = must(t, stray, create("cur/3.0:2,T"), put("cur/3.0:2,T", "not of the form"))
		}
		if got := tellView(impl.Look(stray)); got != tellView(want) {
			t.Fatalf("behind %d steps:\n%s", steps, got)
		}
		plan := impl.PlanOf(stray, moveStep())
		if ops := append(plainMend(stray), plainOwn(d, moveStep())...); tellOps(plan.Ops) != tellOps(ops) {
			t.Fatalf("behind %d steps:\n%swant\n%s", steps, tellOps(plan.Ops), tellOps(ops))
		}
		if got, plain := carried(t, stray, moveStep()), carried(t, d, moveStep()); files(got) != files(plain) {
			t.Errorf("behind %d steps:\n%s\nwant\n%s", steps, files(got), files(plain))
		}
	}
}

// The flags and the stamp of a moved mail are its card's, whatever the index
// has, and an expunge of others leaves both as they are.
func TestCardsTellOfMovedMails(t *testing.T) {
	d := carried(t, stepped(t, threeMails(t), 3), flagging(1, 4), flagging(2, 0), flagging(3, 2))
	if got := impl.Unframe(impl.DiskRead(d, "index").Data).Records; string(got[len(got)-1]) != "F 3 2" || len(got) != 6 {
		t.Errorf("the index has %q", got)
	}
	want := impl.View{Kind: impl.KindMoving, Validity: 5, Next: 4, Cursor: 2, Mails: []impl.Mail{
		{Uid: 1, Stamp: 10, Flags: 4, Body: []byte("a\n")}, {Uid: 2, Stamp: 20, Body: []byte("From b")}, {Uid: 3, Stamp: 30, Flags: 2},
	}}
	wantView(t, d, want)
	d = carried(t, d, expunging(1))
	want.Mails = want.Mails[1:]
	wantView(t, d, want)
	if got := impl.Unframe(impl.DiskRead(d, "index").Data).Records; string(got[1]) != "A 2 20 16 19 1" {
		t.Errorf("the index has %q", got)
	}
	d = stepped(t, carried(t, d, flagging(2, 1)), 2)
	want.Mails[0].Flags = 1
	wantHouse(t, d, want)
}

// A step that finds no room changes nothing, and the next one that does goes
// on where it was.
func TestStepsWithoutRoom(t *testing.T) {
	for steps, d := range moveStages(t)[:5] {
		most := mostUsed(t, d, impl.PlanOf(d, moveStep()).Ops)
		tight := copyDisk(d)
		tight.Quota = most - 1
		wantRefused(t, tight, moveStep(), impl.StoreSpace)
		if got := impl.Survive(tight, moveStep(), 2, 0, nil); got.Code != impl.StoreSpace || tell(got.Disk) != tell(tight) {
			t.Errorf("behind %d steps: a crash in what was not begun: code %d", steps, got.Code)
		}
		tight.Quota = most
		if got := impl.Look(carried(t, tight, moveStep())); tellMails(got) != tellMails(impl.Look(d)) {
			t.Errorf("behind %d steps:\n%s", steps, tellMails(got))
		}
	}
}
