package tests

import (
	"fmt"
	"math/rand"
	"testing"

	"loop.example/s02349/impl"
)

// mostUnsafe is the longest piece of a file that a crash may take.
func mostUnsafe(d impl.Disk) int {
	most := 0
	for _, n := range d.Nodes {
		most = max(most, len(n.Data)-n.Safe)
	}
	return most
}

// cutPicks keep every number of bytes from none to all, where one file alone
// has bytes that are not safe, and some in several files.
func cutPicks(d impl.Disk) [][]int {
	most := mostUnsafe(d)
	if most == 0 {
		return [][]int{nil, {5}}
	}
	list := [][]int{nil, {}, {-1}, {-1 << 63, 5}, {1<<63 - 1}, {3, 0, 7}}
	for keep := range most + 1 {
		list = append(list, []int{keep})
	}
	return list
}

// eachCrash crashes behind any number of the operations, with any of the
// waiting names kept and with any cut.
func eachCrash(d impl.Disk, ops []impl.Op, use func(crashed impl.Disk, at, dirs int, picks []int)) {
	for at := range len(ops) + 1 {
		done := impl.DiskDo(d, ops[:at]).Disk
		for dirs := -1; dirs <= len(done.Pend)+1; dirs++ {
			for _, picks := range cutPicks(done) {
				use(impl.DiskCrash(done, dirs, picks), at, dirs, picks)
			}
		}
	}
}

// wantSettled asks promise 11 of a disk that was recovered.
func wantSettled(t *testing.T, d impl.Disk) {
	t.Helper()
	if ops := impl.Mend(d); len(ops) != 0 {
		t.Fatalf("recovered, it is to be mended again:\n%s", tellOps(ops))
	}
	if again := impl.Recover(d); again.Code != impl.StoreOK || tell(again.Disk) != tell(d) {
		t.Fatalf("a second recovery: code %d\n%s", again.Code, tell(again.Disk))
	}
}

// Promises 10 and 11: each request at each stage of the move, crashed at each
// operation, and what is left on the disk is mended to the last byte.
func TestEachCrashOfEachRequest(t *testing.T) {
	for steps, d := range moveStages(t) {
		for _, r := range stageRequests() {
			plan := impl.PlanOf(d, r)
			if plan.Code != impl.StoreOK {
				if got := impl.Survive(d, r, 1, 1, []int{1}); got.Code != plan.Code || got.Uid != 0 || tell(got.Disk) != tell(d) {
					t.Errorf("behind %d steps, %s: code %d uid %d", steps, tellReq(r), got.Code, got.Uid)
				}
				continue
			}
			before, after := tellMails(impl.Look(d)), tellMails(impl.Look(impl.Apply(d, r).Disk))
			eachCrash(d, plan.Ops, func(crashed impl.Disk, at, dirs int, picks []int) {
				got := impl.Survive(d, r, at, dirs, picks)
				now := tellMails(impl.Look(got.Disk))
				if got.Code != impl.StoreOK || got.Uid != 0 || now != before && now != after {
					t.Fatalf("behind %d steps, %s at %d dirs %d picks %v: code %d\n%s", steps, tellReq(r), at, dirs, picks, got.Code, now)
				}
				if want := modelDo(crashed, plainMend(crashed)); tell(got.Disk) != tell(want.Disk) {
					t.Fatalf("behind %d steps, %s at %d dirs %d picks %v:\n%s\nwant\n%s", steps, tellReq(r), at, dirs, picks, tell(got.Disk), tell(want.Disk))
				}
				wantSettled(t, got.Disk)
			})
		}
	}
}

// A crash of which all was done and nothing is lost is the request, and one
// ahead of it is nothing.
func TestCrashesAtTheEnds(t *testing.T) {
	for steps, d := range moveStages(t) {
		for _, r := range stageRequests() {
			plan := impl.PlanOf(d, r)
			if plan.Code != impl.StoreOK {
				continue
			}
			done := impl.Apply(d, r).Disk
			for _, at := range []int{len(plan.Ops), len(plan.Ops) + 1, 1<<63 - 1} {
				if got := impl.Survive(d, r, at, 0, nil); got.Code != impl.StoreOK || files(got.Disk) != files(done) {
					t.Errorf("behind %d steps, %s at %d: code %d\n%s", steps, tellReq(r), at, got.Code, files(got.Disk))
				}
			}
			for _, at := range []int{0, -1, -1 << 63} {
				if got := impl.Survive(d, r, at, 1<<63-1, []int{1000}); got.Code != impl.StoreOK || files(got.Disk) != files(d) {
					t.Errorf("behind %d steps, %s at %d: code %d\n%s", steps, tellReq(r), at, got.Code, files(got.Disk))
				}
			}
		}
	}
}

// someRequests are one of each kind, on a mail that moves first and on one
// that moves last.
func someRequests() []impl.Req {
	return []impl.Req{moveStep(), delivery("From x", 40, 2), flagging(1, 2), flagging(3, 2), expunging(1), expunging(2, 3)}
}

// A second crash in the recovery: mending never changes the mailbox, however
// far it comes.
func TestCrashesInTheRecovery(t *testing.T) {
	again := 0
	for steps, d := range moveStages(t) {
		for _, r := range someRequests() {
			seen, seenTwice := map[string]bool{}, map[string]bool{}
			eachCrash(d, impl.PlanOf(d, r).Ops, func(crashed impl.Disk, at, dirs int, picks []int) {
				if len(impl.Mend(crashed)) == 0 || seen[files(crashed)] {
					return
				}
				seen[files(crashed)] = true
				want := tellMails(impl.Look(crashed))
				eachCrash(crashed, impl.Mend(crashed), func(twice impl.Disk, at2, dirs2 int, picks2 []int) {
					if seenTwice[want+files(twice)] {
						return
					}
					seenTwice[want+files(twice)] = true
					again++
					got := impl.Recover(twice)
					if now := tellMails(impl.Look(got.Disk)); got.Code != impl.StoreOK || now != want {
						t.Fatalf("behind %d steps, %s at %d dirs %d picks %v, and at %d dirs %d picks %v: code %d\n%s\nwant\n%s",
							steps, tellReq(r), at, dirs, picks, at2, dirs2, picks2, got.Code, now, want)
					}
					wantSettled(t, got.Disk)
				})
			})
		}
	}
	if again < 5000 {
		t.Fatal("only", again, "second crashes")
	}
}

// Promise 11: room for a copy of the largest file is enough.
func TestMendingWithLittleRoom(t *testing.T) {
	for steps, d := range moveStages(t) {
		for _, r := range someRequests() {
			eachCrash(d, impl.PlanOf(d, r).Ops, func(crashed impl.Disk, at, dirs int, picks []int) {
				largest := 0
				for _, n := range crashed.Nodes {
					largest = max(largest, len(n.Data))
				}
				used, _ := modelUsed(crashed)
				crashed.Quota = used + largest
				if got := impl.Recover(crashed); got.Code != impl.StoreOK {
					t.Fatalf("behind %d steps, %s at %d dirs %d picks %v: code %d", steps, tellReq(r), at, dirs, picks, got.Code)
				}
			})
		}
	}
}

func TestJustEnoughRoomToMend(t *testing.T) {
	moving := movingDisk("B|C 1", "cur/1.11:2,S", "a\n")
	for i, d := range []impl.Disk{
		diskOf("index", logOf("V 5 1 0")+"x", "mbox.0", ""),
		diskOf("index", logOf("V 5 1 0", "A 1 0 0 11 0"), "mbox.0", entry+"x"),
		diskOf("index", logOf("V 5 1 0", "A 1 0 0 11 0")+"x", "mbox.0", entry+entry, "index.new", "old", "stray", "rest"),
		diskOf("uidlist", logOf("V 5 1")+"x", "cur/1.0:2,", "a"),
		diskOf("uidlist", logOf("V 5 1", "X 9 1")+"torn", "cur/1.0:2,", "dead", "uidlist.new", "old"),
		must(t, moving, put("index", "x")),
		must(t, moving, put("cursor", "x")),
		must(t, moving, put("mbox.0", "x")),
		must(t, moving, put("index", "x"), put("cursor", "y"), put("mbox.0", "z"), create("cursor.new"), put("cursor.new", "old")),
	} {
		most := mostUsed(t, d, impl.Mend(d))
		tight := copyDisk(d)
		tight.Quota = most
		if got := impl.Recover(tight); got.Code != impl.StoreOK || len(impl.Mend(got.Disk)) != 0 {
			t.Errorf("%d: code %d where %d bytes do", i, got.Code, most)
		}
		tight.Quota = most - 1
		if got := impl.Recover(tight); got.Code != impl.StoreSpace || got.Uid != 0 || tell(got.Disk) != tell(tight) {
			t.Errorf("%d: code %d uid %d, want StoreSpace and the disk as it was", i, got.Code, got.Uid)
		}
		for _, r := range []impl.Req{delivery("", 0, 0), moveStep()} {
			wantRefused(t, tight, r, impl.StoreSpace)
		}
	}
}

// Taking names away asks for no room at all.
func TestStraysGoWithoutRoom(t *testing.T) {
	for steps, d := range moveStages(t) {
		stray := must(t, d, create("stray"), put("stray", "rest"), create("tmp/9"), dir())
		stray.Quota = 0
		got := impl.Recover(stray)
		if got.Code != impl.StoreOK || names(got.Disk.Names) != names(d.Names) {
			t.Errorf("behind %d steps: code %d, %s", steps, got.Code, names(got.Disk.Names))
		}
	}
}

// Survive answers StoreSpace where the crash left more to mend than there is
// room for, with the disk as the crash left it.
func TestCrashesWithoutRoomToMend(t *testing.T) {
	d := twoMails(t, impl.KindMbox)
	r := delivery("x", 1, 0)
	used, _ := modelUsed(impl.Apply(d, r).Disk)
	d.Quota = used
	crashed := impl.DiskCrash(impl.DiskDo(d, impl.PlanOf(d, r).Ops[:2]).Disk, 0, nil)
	got := impl.Survive(d, r, 2, 0, nil)
	if got.Code != impl.StoreSpace || got.Uid != 0 || tell(got.Disk) != tell(crashed) {
		t.Errorf("code %d uid %d\n%s", got.Code, got.Uid, tell(got.Disk))
	}
	if now := tellMails(impl.Look(got.Disk)); now != tellMails(impl.Look(d)) {
		t.Errorf("not mended, but still a mailbox:\n%s", now)
	}
}

// Promise 12 on disks that are not valid.
func TestRecoveriesOfWrongDisks(t *testing.T) {
	for name, d := range wrongDisks() {
		if ops := impl.Mend(d); len(ops) != 0 {
			t.Errorf("%s: mended by %d operations", name, len(ops))
		}
		for _, got := range []impl.Applied{impl.Recover(d), impl.Survive(d, moveStep(), 1, 1, []int{1}), impl.Survive(d, impl.Req{}, -1, -1, nil), impl.Apply(d, moveStep())} {
			if got.Code != impl.StoreBadDisk || got.Uid != 0 || tell(got.Disk) != tell(impl.Disk{}) {
				t.Errorf("%s: code %d uid %d\n%.300s", name, got.Code, got.Uid, tell(got.Disk))
			}
		}
	}
}

// crashedWalk does requests of which many end in a crash, and sometimes a
// crash of the recovery.
func crashedWalk(r *rand.Rand, d impl.Disk, steps int, told func(d impl.Disk)) {
	for step := range steps {
		req := anyReq(r, impl.Look(d), true)
		// A stamp of its own tells mails with one body apart.
		req.Stamp = int64(1000 + step)
		if r.Intn(2) == 0 {
			d = impl.Apply(d, req).Disk
			told(d)
			continue
		}
		ops := impl.PlanOf(d, req).Ops
		done := impl.DiskDo(d, ops[:r.Intn(len(ops)+1)]).Disk
		crashed := impl.DiskCrash(done, r.Intn(len(done.Pend)+2)-1, anyPicks(r))
		if mend := impl.Mend(crashed); r.Intn(2) == 0 {
			crashed = impl.DiskCrash(impl.DiskDo(crashed, mend[:r.Intn(len(mend)+1)]).Disk, r.Intn(4)-1, anyPicks(r))
		}
		d = impl.Recover(crashed).Disk
		told(d)
	}
}

// Promise 10: a uid that was told once is never that of another mail, and once
// gone it does not come again.
func TestUidsAreNotUsedTwice(t *testing.T) {
	kinds := map[int]int{}
	for seed := range int64(60) {
		owner := map[uint32]string{}
		there := map[uint32]bool{}
		next := uint32(1)
		crashedWalk(rand.New(rand.NewSource(seed)), formatted(t, []int{impl.KindMbox, impl.KindMbox, impl.KindMaildir}[seed%3]), 60, func(d impl.Disk) {
			v := impl.Look(d)
			if v.Code != impl.StoreOK || v.Next < next {
				t.Fatalf("seed %d: code %d, next uid %d behind %d", seed, v.Code, v.Next, next)
			}
			next = v.Next
			kinds[v.Kind]++
			now := map[uint32]bool{}
			for _, m := range v.Mails {
				id := fmt.Sprintf("%d %q", m.Stamp, m.Body)
				if old, told := owner[m.Uid]; told && (old != id || !there[m.Uid]) {
					t.Fatalf("seed %d: uid %d is %s and was %s, there %v", seed, m.Uid, id, old, there[m.Uid])
				}
				owner[m.Uid] = id
				now[m.Uid] = true
			}
			there = now
		})
	}
	if kinds[impl.KindMbox] < 100 || kinds[impl.KindMoving] < 300 || kinds[impl.KindMaildir] < 300 {
		t.Fatal("the walk asks too little:", kinds)
	}
}
