package tests

import (
	"bytes"
	"fmt"
	"math/rand"
	"strings"
	"testing"

	"loop.example/s02349/impl"
)

// plainDo changes a mailbox as promise 8 says: as a list, whatever its form.
func plainDo(v impl.View, r impl.Req) impl.View {
	after := v
	after.Mails = nil
	for _, m := range v.Mails {
		if r.Kind == impl.ReqFlags && m.Uid == r.Uid {
			m.Flags = r.Flags
		}
		stays := true
		for _, uid := range r.Uids {
			stays = stays && (r.Kind != impl.ReqExpunge || m.Uid != uid)
		}
		if stays {
			after.Mails = append(after.Mails, m)
		}
	}
	if r.Kind == impl.ReqDeliver {
		after.Mails = append(after.Mails, impl.Mail{Uid: v.Next, Stamp: r.Stamp, Flags: r.Flags, Body: r.Body})
		after.Next++
	}
	return after
}

func anyBody(r *rand.Rand) string {
	var b strings.Builder
	for range r.Intn(6) {
		b.WriteString(pieces[r.Intn(len(pieces))])
	}
	if r.Intn(25) == 0 {
		return strings.Repeat("x", impl.MaxBody+r.Intn(2))
	}
	return b.String()
}

func anyStamp(r *rand.Rand) int64 {
	list := []int64{0, 1, 77, impl.MaxStamp, impl.MaxStamp}
	if r.Intn(30) == 0 {
		list = []int64{-1, impl.MaxStamp + 1}
	}
	return list[r.Intn(len(list))]
}

func anyFlags(r *rand.Rand) uint32 {
	if r.Intn(30) == 0 {
		return bit31 | uint32(r.Intn(64))
	}
	return []uint32{0, 8, 12, impl.AllFlags, uint32(r.Intn(64)), r.Uint32() & impl.AllFlags}[r.Intn(6)]
}

func anyUid(r *rand.Rand, v impl.View) uint32 {
	if len(v.Mails) == 0 || r.Intn(15) == 0 {
		return []uint32{0, 1, v.Next, 4294967295}[r.Intn(4)]
	}
	return v.Mails[r.Intn(len(v.Mails))].Uid
}

func anyUids(r *rand.Rand, v impl.View) []uint32 {
	var uids []uint32
	for _, m := range v.Mails {
		if r.Intn(3) == 0 {
			uids = append(uids, m.Uid)
		}
	}
	if r.Intn(8) == 0 {
		uids = append(uids, anyUid(r, v))
	}
	return uids
}

// anyReq is ReqMove only where move says so.
func anyReq(r *rand.Rand, v impl.View, move bool) impl.Req {
	q := impl.Req{Body: []byte(anyBody(r)), Stamp: anyStamp(r), Flags: anyFlags(r), Uid: anyUid(r, v), Uids: anyUids(r, v)}
	q.Kind = []int{1, 1, 1, 2, 2, 3}[r.Intn(6)]
	if move && r.Intn(2) == 0 {
		q.Kind = impl.ReqMove
	}
	if r.Intn(60) == 0 {
		q.Kind = []int{0, 5, -1}[r.Intn(3)]
	}
	return q
}

// Promise 8: the same requests on both forms, held against a list.
func TestBothFormsAreOneMailbox(t *testing.T) {
	done, refused := 0, 0
	for seed := range int64(150) {
		r := rand.New(rand.NewSource(seed))
		forms := []impl.Disk{formatted(t, impl.KindMbox), formatted(t, impl.KindMaildir)}
		want := impl.View{Validity: 5, Next: 1}
		for step := range 25 {
			req := anyReq(r, want, false)
			code, uid := plainCode(want, req), uint32(0)
			if code == impl.StoreOK {
				done++
				if req.Kind == impl.ReqDeliver {
					uid = want.Next
				}
				want = plainDo(want, req)
			} else {
				refused++
			}
			for i, d := range forms {
				got := impl.Apply(d, req)
				if got.Code != code || got.Uid != uid || tellMails(impl.Look(got.Disk)) != tellMails(want) {
					t.Fatalf("seed %d step %d form %d, %s: code %d uid %d, want code %d\n%.2000s", seed, step, i, tellReq(req), got.Code, got.Uid, code, tellMails(impl.Look(got.Disk)))
				}
				if code != impl.StoreOK && tell(got.Disk) != tell(d) {
					t.Fatalf("seed %d step %d form %d, %s: refused, but the disk is another", seed, step, i, tellReq(req))
				}
				forms[i] = got.Disk
			}
		}
		for i, kind := range []int{impl.KindMbox, impl.KindMaildir} {
			if got := impl.Look(forms[i]); got.Kind != kind || got.Cursor != 0 {
				t.Fatal("kind", got.Kind, "cursor", got.Cursor)
			}
		}
	}
	if done < 1000 || refused < 200 {
		t.Fatal("the walk asks too little:", done, "done,", refused, "refused")
	}
}

// Promise 7: each body alone and all of them together.
func TestBodiesInAnMbox(t *testing.T) {
	empty := formatted(t, impl.KindMbox)
	d := empty
	var want []impl.Mail
	eachText(3, func(body string) {
		m := impl.Mail{Uid: 1, Stamp: 7, Flags: 9, Body: []byte(body)}
		wantView(t, carried(t, empty, delivery(body, 7, 9)), impl.View{Kind: impl.KindMbox, Validity: 5, Next: 2, Mails: []impl.Mail{m}})
		if len(want) == 60 {
			wantView(t, d, impl.View{Kind: impl.KindMbox, Validity: 5, Next: 61, Mails: want})
			d, want = empty, nil
		}
		m.Uid = uint32(len(want) + 1)
		want = append(want, m)
		d = carried(t, d, delivery(body, 7, 9))
	})
}

// A mailbox keeps its bodies when mails around them go and flags change.
func TestBodiesOutliveExpunges(t *testing.T) {
	bodies := []string{"From a\n", "b", "", ">From c", "\x00\n\x00", "\n", "From mail\n\nFrom mail\n", "From mail\n"}
	d := formatted(t, impl.KindMbox)
	want := impl.View{Kind: impl.KindMbox, Validity: 5, Next: 1}
	for i, body := range bodies {
		r := delivery(body, int64(i), uint32(i))
		d, want = carried(t, d, r), plainDo(want, r)
	}
	wantView(t, d, want)
	for _, r := range []impl.Req{expunging(1, 8), flagging(3, 77), expunging(4), delivery("From z", 99, 0), expunging(2, 3), flagging(9, 1), expunging(5, 6, 7), expunging(9)} {
		d, want = carried(t, d, r), plainDo(want, r)
		wantView(t, d, want)
	}
	if len(want.Mails) != 0 || want.Next != 10 {
		t.Fatal(want)
	}
}

// Promise 9, with a walk ahead of it.
func TestMovingHouse(t *testing.T) {
	for seed := range int64(60) {
		r := rand.New(rand.NewSource(seed))
		d := formatted(t, impl.KindMbox)
		for range r.Intn(14) {
			d = impl.Apply(d, anyReq(r, impl.Look(d), false)).Disk
		}
		want := impl.Look(d)
		left := "uidlist"
		for step := range len(want.Mails) + 2 {
			d = carried(t, d, moveStep())
			got := impl.Look(d)
			kind, cursor := impl.KindMoving, uint32(0)
			if step == len(want.Mails)+1 {
				kind = impl.KindMaildir
			} else if step > 0 {
				cursor = want.Mails[step-1].Uid
			}
			if tellMails(got) != tellMails(want) || got.Kind != kind || got.Cursor != cursor {
				t.Fatalf("seed %d step %d:\n%.2000s\nwant kind %d cursor %d %.2000s", seed, step, tellView(got), kind, cursor, tellMails(want))
			}
		}
		var cards []string
		for _, m := range want.Mails {
			cards = append(cards, impl.MailName(m.Uid, m.Stamp, m.Flags), string(m.Body))
		}
		if got := names(d.Names); got != names(diskOf(append(cards, left, "")...).Names) {
			t.Fatalf("seed %d: %s", seed, got)
		}
		if got := impl.Apply(d, moveStep()); got.Code != impl.StoreOK || tell(got.Disk) != tell(d) {
			t.Fatalf("seed %d: one step more: code %d", seed, got.Code)
		}
	}
}

// Promise 8 on the way: requests between the steps of a move.
func TestRequestsUnderTheMove(t *testing.T) {
	kinds := map[int]int{}
	for seed := range int64(150) {
		r := rand.New(rand.NewSource(seed))
		d := formatted(t, impl.KindMbox)
		want := impl.View{Validity: 5, Next: 1}
		for step := range 40 {
			req := anyReq(r, want, step > 6)
			code := plainCode(want, req)
			if code == impl.StoreOK {
				want = plainDo(want, req)
			}
			plan := impl.PlanOf(d, req)
			if code == impl.StoreOK && tellOps(plan.Ops) != tellOps(plainOwn(d, req)) {
				t.Fatalf("seed %d step %d, %s:\n%.2000swant\n%.2000s", seed, step, tellReq(req), tellOps(plan.Ops), tellOps(plainOwn(d, req)))
			}
			got := impl.Apply(d, req)
			if got.Code != code || plan.Code != code || tellMails(impl.Look(got.Disk)) != tellMails(want) {
				t.Fatalf("seed %d step %d, %s: code %d, want %d\n%.2000s", seed, step, tellReq(req), got.Code, code, tellMails(impl.Look(got.Disk)))
			}
			d = got.Disk
			kinds[impl.Look(d).Kind]++
		}
	}
	if kinds[impl.KindMbox] < 500 || kinds[impl.KindMoving] < 500 || kinds[impl.KindMaildir] < 500 {
		t.Fatal("the walk asks too little:", kinds)
	}
}

// Promises 10 and 11: a crash at every operation of a request.
func TestCrashesInRequests(t *testing.T) {
	mended := 0
	for seed := range int64(60) {
		r := rand.New(rand.NewSource(seed))
		d := formatted(t, []int{impl.KindMbox, impl.KindMaildir}[seed%2])
		for range r.Intn(16) {
			d = impl.Apply(d, anyReq(r, impl.Look(d), true)).Disk
		}
		req := anyReq(r, impl.Look(d), true)
		plan := impl.PlanOf(d, req)
		before, after := tellMails(impl.Look(d)), tellMails(impl.Look(impl.Apply(d, req).Disk))
		for at := range len(plan.Ops) + 1 {
			pend := len(impl.DiskDo(d, plan.Ops[:at]).Disk.Pend)
			for dirs := -1; dirs <= pend+1; dirs++ {
				for _, picks := range [][]int{nil, {0}, {1000000}, {5, 0}, anyPicks(r)} {
					got := impl.Survive(d, req, at, dirs, picks)
					now := tellMails(impl.Look(got.Disk))
					if plan.Code == impl.StoreOK && (got.Code != impl.StoreOK || now != before && now != after) {
						t.Fatalf("seed %d, %s at %d dirs %d picks %v: code %d\n%.2000sahead\n%.2000sbehind\n%.2000s", seed, tellReq(req), at, dirs, picks, got.Code, now, before, after)
					}
					if plan.Code != impl.StoreOK && (got.Code != plan.Code || tell(got.Disk) != tell(d)) {
						t.Fatalf("seed %d, %s: code %d, want %d", seed, tellReq(req), got.Code, plan.Code)
					}
					if again := impl.Recover(got.Disk); again.Code != impl.StoreOK || tell(again.Disk) != tell(got.Disk) {
						t.Fatalf("seed %d: a second recovery: code %d\n%s", seed, again.Code, tell(again.Disk))
					}
					mended += len(impl.Mend(impl.DiskCrash(impl.DiskDo(d, plan.Ops[:at]).Disk, dirs, picks)))
				}
			}
		}
	}
	if mended < 500 {
		t.Fatal("the crashes leave too little to mend:", mended)
	}
}

// A crash ahead of the first operation, and one behind the last.
func TestCrashesBeyondTheEnds(t *testing.T) {
	for _, kind := range []int{impl.KindMbox, impl.KindMaildir} {
		d := twoMails(t, kind)
		r := delivery("c", 1, 0)
		before, after := tellMails(impl.Look(d)), tellMails(impl.Look(impl.Apply(d, r).Disk))
		for at, want := range map[int]string{-1 << 63: before, -1: before, 0: before, 5: after, 6: after, 1<<63 - 1: after} {
			got := impl.Survive(d, r, at, 0, nil)
			if got.Code != impl.StoreOK || got.Uid != 0 || tellMails(impl.Look(got.Disk)) != want {
				t.Errorf("kind %d at %d: code %d uid %d\n%s", kind, at, got.Code, got.Uid, tellMails(impl.Look(got.Disk)))
			}
		}
	}
}

// turned is a record, or a log's tail, with one thing changed.
func turned(r *rand.Rand, text string) string {
	words := strings.Split(text, " ")
	numbers := []string{"0", "1", "2", "3", "11", "13", "00", "01", "-1", "", "x", "99999", "100000", "1000000000000", "1000000000001", "2147483647", "2147483648", "4294967294", "4294967295", "4294967296", "A", "F", "V", "X", "C", "B"}
	at := r.Intn(len(words))
	switch r.Intn(4) {
	case 0:
		return strings.Join(append(words, numbers[r.Intn(len(numbers))]), " ")
	case 1:
		return strings.Join(append(words[:at:at], words[at+1:]...), " ")
	default:
		words[at] = numbers[r.Intn(len(numbers))]
		return strings.Join(words, " ")
	}
}

func spoiledLog(r *rand.Rand, log string) string {
	var records []string
	for _, rec := range impl.Unframe([]byte(log)).Records {
		records = append(records, string(rec))
	}
	at := r.Intn(len(records))
	switch r.Intn(7) {
	case 0:
		return log + "torn"[:1+r.Intn(4)]
	case 1:
		return log[:r.Intn(len(log))]
	case 2:
		records = append(records, records[at])
	case 3:
		other := r.Intn(len(records))
		records[at], records[other] = records[other], records[at]
	case 4:
		records = append(records[:at:at], records[at+1:]...)
	default:
		records[at] = turned(r, records[at])
	}
	return logOf(records...)
}

func spoiledDisk(r *rand.Rand, d impl.Disk) impl.Disk {
	var pairs []string
	for _, e := range d.Names {
		name, data := e.Name, string(d.Nodes[e.Node].Data)
		switch what := r.Intn(12); {
		case what == 0 && (name == "index" || name == "cursor" || name == "uidlist"):
			data = spoiledLog(r, data)
		case what == 1 && r.Intn(3) == 0:
			continue
		case what == 2 && len(data) > 0 && r.Intn(2) == 0:
			at := r.Intn(len(data))
			data = data[:at] + "x\nF >"[r.Intn(5):][:1] + data[at+1:]
		case what == 3:
			data += pieces[r.Intn(len(pieces))]
		case what == 4 && len(data) > 0 && r.Intn(3) == 0:
			data = data[:r.Intn(len(data))]
		}
		pairs = append(pairs, name, data)
	}
	others := []string{"stray", "index.new", "cursor.new", "uidlist.new", "mbox.0.new", "mbox.1", "tmp/1", "cur/x", "index", "cursor", "uidlist"}
	for range r.Intn(3) {
		name := others[r.Intn(len(others))]
		if r.Intn(2) == 0 {
			name = impl.MailName(uint32(1+r.Intn(9)), int64(r.Intn(3)), uint32(r.Intn(3)))
		}
		if impl.DiskRead(d, name).Found {
			continue
		}
		data := []string{"", "x", logOf("B"), logOf("B", "C 1"), logOf("V 7 1 0"), logOf("V 7 1"), logOf("V 7 1", "X 4 1 3")}[r.Intn(7)]
		pairs = append(pairs, name, data)
	}
	return diskOf(pairs...)
}

// Chapter 5 on disks that no request made, as the second telling has them, and
// promise 12.
func TestSpoiledMailboxes(t *testing.T) {
	codes, kinds, mended := map[int]int{}, map[int]int{}, 0
	for seed := range int64(3000) {
		r := rand.New(rand.NewSource(seed))
		d := formatted(t, []int{impl.KindMbox, impl.KindMaildir, impl.KindMbox}[seed%3])
		for range r.Intn(12) {
			d = impl.Apply(d, anyReq(r, impl.Look(d), seed%3 == 2)).Disk
		}
		d = spoiledDisk(r, d)
		want := plainLook(d)
		if got := impl.Look(d); tellView(got) != tellView(want) {
			t.Fatalf("seed %d:\n%.2000s\nwant\n%.2000s\n%s", seed, tellView(got), tellView(want), files(d))
		}
		ops := plainMend(d)
		if got := impl.Mend(d); tellOps(got) != tellOps(ops) {
			t.Fatalf("seed %d:\n%.2000s\nwant\n%.2000s\n%s", seed, tellOps(got), tellOps(ops), files(d))
		}
		codes[want.Code]++
		kinds[want.Kind]++
		mended += min(len(ops), 1)
		wantSpoiledRequest(t, seed, d, anyReq(r, want, true))
	}
	if codes[impl.StoreOK] < 800 || codes[impl.StoreCorrupt] < 500 || codes[impl.StoreNone] < 20 || kinds[impl.KindMbox] < 200 || kinds[impl.KindMoving] < 200 || kinds[impl.KindMaildir] < 200 || mended < 500 {
		t.Fatal("the spoiling asks too little:", codes, kinds, mended)
	}
}

// wantSpoiledRequest holds a request on any disk against the second telling.
func wantSpoiledRequest(t *testing.T, seed int64, d impl.Disk, req impl.Req) {
	t.Helper()
	code := plainCode(plainLook(d), req)
	if code != impl.StoreOK {
		wantRefused(t, d, req, code)
		return
	}
	mended := modelDo(d, plainMend(d))
	want := append(plainMend(d), plainOwn(mended.Disk, req)...)
	if modelDo(d, want).Code != impl.DiskOK {
		wantRefused(t, d, req, impl.StoreSpace)
		return
	}
	got := impl.PlanOf(d, req)
	if got.Code != impl.StoreOK || tellOps(got.Ops) != tellOps(want) {
		t.Fatalf("seed %d, %s: code %d\n%.2000swant\n%.2000s", seed, tellReq(req), got.Code, tellOps(got.Ops), tellOps(want))
	}
	if after := impl.Apply(d, req); tell(after.Disk) != tell(modelDo(d, want).Disk) {
		t.Fatalf("seed %d, %s:\n%s", seed, tellReq(req), tell(after.Disk))
	}
}

// Disks of which not even the bytes of a log can be trusted.
func TestDisksOfNoise(t *testing.T) {
	for seed := range int64(500) {
		r := rand.New(rand.NewSource(seed))
		d := impl.Disk{Quota: anyQuota(r)}
		for _, name := range []string{"index", "mbox.0", "cursor", "uidlist", "cur/1.0:2,"} {
			data := make([]byte, r.Intn(40))
			r.Read(data)
			if r.Intn(2) == 0 {
				d = impl.DiskDo(d, []impl.Op{create(name), put(name, string(data))}).Disk
			}
		}
		if r.Intn(4) == 0 && len(d.Pend) > 0 {
			spoil(r, &d)
		}
		wantView(t, d, plainLook(d))
		if got := impl.Recover(d); got.Code != impl.Look(d).Code && got.Code != impl.StoreSpace {
			t.Fatalf("seed %d: code %d", seed, got.Code)
		}
	}
}

func scribbleOps(ops []impl.Op) {
	for _, op := range ops {
		scribbleBytes(op.Data)
	}
	for i := range ops[:cap(ops)] {
		ops[:cap(ops)][i] = impl.Op{Kind: -7}
	}
}

func scribbleView(v impl.View) {
	for _, m := range v.Mails {
		scribbleBytes(m.Body)
	}
	for i := range v.Mails[:cap(v.Mails)] {
		v.Mails[:cap(v.Mails)][i] = impl.Mail{Uid: 7}
	}
}

// No answer shares memory with an argument, and no argument is written to.
func TestStoresKeepToThemselves(t *testing.T) {
	torn := must(t, twoMails(t, impl.KindMbox), put("index", "torn"), put("mbox.0", "more"), create("stray"))
	for i, d := range []impl.Disk{
		twoMails(t, impl.KindMbox), twoMails(t, impl.KindMaildir), movingDisk("B|C 1", "cur/1.11:2,S", "a\n"), movingDisk("B"), torn, diskOf("index", "junk"), {},
	} {
		kept := copyDisk(d)
		for _, r := range []impl.Req{delivery("new\nmail", 1, 2), flagging(1, 4), expunging(1), moveStep(), expunging(9), {}} {
			body, uids, picks := string(r.Body), fmt.Sprint(r.Uids), []int{3, 1}
			scribbleView(impl.Look(d))
			scribbleOps(impl.Mend(d))
			scribbleOps(impl.PlanOf(d, r).Ops)
			scribble(impl.Recover(d).Disk)
			scribble(impl.Apply(d, r).Disk)
			scribble(impl.Survive(d, r, 2, 1, picks).Disk)
			scribble(impl.Survive(d, r, 99, 99, picks).Disk)
			if tell(d) != tell(kept) || string(r.Body) != body || fmt.Sprint(r.Uids) != uids || fmt.Sprint(picks) != "[3 1]" {
				t.Fatalf("disk %d, %s: an argument is written to\n%s", i, tellReq(r), tell(d))
			}
		}
	}
}

// No two lists of one answer share memory.
func TestListsOfOneAnswer(t *testing.T) {
	for _, d := range []impl.Disk{twoMails(t, impl.KindMbox), twoMails(t, impl.KindMaildir), movingDisk("B|C 1", "cur/1.11:2,S", "a\n")} {
		v := impl.Look(d)
		second := string(v.Mails[1].Body)
		scribbleBytes(v.Mails[0].Body)
		if string(v.Mails[1].Body) != second {
			t.Error("two bodies share memory")
		}
	}
	d := must(t, twoMails(t, impl.KindMbox), put("index", "torn"), put("mbox.0", "more"))
	for _, r := range []impl.Req{delivery("x", 1, 0), flagging(1, 4), expunging(1), moveStep()} {
		ops := impl.PlanOf(d, r).Ops
		for i := range ops {
			var others [][]byte
			for j := range ops {
				others = append(others, bytes.Clone(ops[j].Data))
			}
			scribbleBytes(ops[i].Data)
			for j := range ops {
				if j != i && !bytes.Equal(ops[j].Data, others[j]) {
					t.Fatal("two operations share memory")
				}
			}
		}
	}
	formats := impl.Format(impl.KindMbox, 5, 1000)
	formats.Names[0].Name = "scribbled"
	if formats.Kept[0].Name != "index" {
		t.Error("Names and Kept share memory")
	}
}
