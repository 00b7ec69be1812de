package tests

import (
	"math/rand"
	"strings"
	"testing"

	"loop.example/s02349/impl"
)

func anyName(r *rand.Rand) string {
	list := []string{"a", "b", "c", "aa", "ab", "index", "cur/1.2:2,S", "~", "!", strings.Repeat("n", impl.MaxNameLen)}
	if r.Intn(40) == 0 {
		list = []string{"", " ", "a b", "\x7f", "\xff", strings.Repeat("n", impl.MaxNameLen+1)}
	}
	return list[r.Intn(len(list))]
}

func anyOp(r *rand.Rand) impl.Op {
	op := impl.Op{Kind: 1 + r.Intn(6), Name: anyName(r), To: anyName(r)}
	if op.Kind == impl.OpDir && r.Intn(4) > 0 {
		op.Kind = impl.OpAppend
	}
	if r.Intn(60) == 0 {
		op.Kind = []int{0, 7, -1}[r.Intn(3)]
	}
	op.Data = make([]byte, r.Intn(12))
	if r.Intn(30) == 0 {
		op.Data = make([]byte, r.Intn(impl.MaxFileLen+2))
	}
	r.Read(op.Data)
	return op
}

func anyOps(r *rand.Rand, most int) []impl.Op {
	var ops []impl.Op
	for range r.Intn(most) {
		ops = append(ops, anyOp(r))
	}
	return ops
}

func anyPicks(r *rand.Rand) []int {
	var picks []int
	for range r.Intn(5) {
		picks = append(picks, r.Intn(60)-15)
	}
	return picks
}

func anyQuota(r *rand.Rand) int {
	return []int{0, 40, 5000, impl.MaxQuota}[r.Intn(4)]
}

// Promise 1, and both operations and crashes as the second telling has them.
func TestWalks(t *testing.T) {
	for seed := range int64(300) {
		r := rand.New(rand.NewSource(seed))
		d := impl.Disk{Quota: anyQuota(r)}
		for range 25 {
			ops := anyOps(r, 12)
			before := tell(d)
			got, want := impl.DiskDo(d, ops), modelDo(d, ops)
			if got.Code != want.Code || got.Count != want.Count || tell(got.Disk) != tell(want.Disk) {
				t.Fatalf("seed %d: code %d behind %d, want %d behind %d\n%.2000s\nwant\n%.2000s",
					seed, got.Code, got.Count, want.Code, want.Count, tell(got.Disk), tell(want.Disk))
			}
			dirs, picks := r.Intn(len(got.Disk.Pend)+3)-1, anyPicks(r)
			fallen := impl.DiskCrash(got.Disk, dirs, picks)
			if tell(fallen) != tell(modelCrash(got.Disk, dirs, picks)) {
				t.Fatalf("seed %d: crash %d %v\n%.2000s", seed, dirs, picks, tell(fallen))
			}
			if !impl.DiskValid(got.Disk) || !impl.DiskValid(fallen) {
				t.Fatalf("seed %d: not valid", seed)
			}
			if tell(d) != before {
				t.Fatalf("seed %d: an argument was written to", seed)
			}
			d = got.Disk
			if r.Intn(5) == 0 {
				d = fallen
			}
		}
	}
}

// Promise 1 for disks that no operations made: one that is valid with a thing
// or two spoilt, which may leave it valid.
func TestSpoiltDisks(t *testing.T) {
	valid := 0
	for seed := range int64(3000) {
		r := rand.New(rand.NewSource(seed))
		d := copyDisk(impl.DiskDo(impl.Disk{Quota: 50}, anyGoodOps(r)).Disk)
		for range 1 + r.Intn(2) {
			spoil(r, &d)
		}
		if impl.DiskValid(d) != modelValid(d) {
			t.Fatalf("seed %d: valid %v\n%.2000s", seed, impl.DiskValid(d), tell(d))
		}
		ops := anyOps(r, 6)
		got, want := impl.DiskDo(d, ops), modelDo(d, ops)
		if got.Code != want.Code || got.Count != want.Count || tell(got.Disk) != tell(want.Disk) {
			t.Fatalf("seed %d: code %d behind %d", seed, got.Code, got.Count)
		}
		fallen := impl.DiskCrash(d, 2, []int{1, 2})
		if tell(fallen) != tell(modelCrash(d, 2, []int{1, 2})) {
			t.Fatalf("seed %d: crash\n%.2000s", seed, tell(fallen))
		}
		if !impl.DiskValid(got.Disk) || !impl.DiskValid(fallen) {
			t.Fatalf("seed %d: an answer that is not valid", seed)
		}
		if modelValid(d) {
			valid++
		}
	}
	if valid < 300 || valid > 2700 {
		t.Fatal("the spoiling asks too little:", valid, "of 3000 are valid")
	}
}

func anyGoodOps(r *rand.Rand) []impl.Op {
	var ops []impl.Op
	for _, name := range []string{"a", "b", "c"}[:1+r.Intn(3)] {
		ops = append(ops, create(name), put(name, "xyz"[:r.Intn(4)]))
	}
	if r.Intn(2) == 0 {
		ops = append(ops, dir())
	}
	return append(ops, rename("a", "d"), create("e"), put("e", "12"), syncing("e"), remove("d"))
}

func spoil(r *rand.Rand, d *impl.Disk) {
	small := r.Intn(6) - 1
	entries := [][]impl.Entry{d.Names, d.Kept}[r.Intn(2)]
	switch what := r.Intn(10); {
	case what == 0:
		d.Quota = []int{-1, 0, impl.MaxQuota, impl.MaxQuota + 1}[r.Intn(4)]
	case what == 1:
		d.Nodes[r.Intn(len(d.Nodes))].Safe = small
	case what == 2:
		d.Nodes[r.Intn(len(d.Nodes))].Data = make([]byte, max(0, small))
	case what == 3 && len(entries) > 0:
		entries[r.Intn(len(entries))].Node = small
	case what == 4 && len(entries) > 0:
		entries[r.Intn(len(entries))].Name = anyName(r)
	case what == 5:
		d.Nodes = append(d.Nodes, impl.Node{})
	case what == 6:
		d.Pend[r.Intn(len(d.Pend))].Node = small
	case what == 7:
		d.Pend[r.Intn(len(d.Pend))].To = []string{"", "d", "e", "f"}[r.Intn(4)]
	case what == 8:
		d.Pend[r.Intn(len(d.Pend))].Kind = r.Intn(8)
	default:
		d.Pend = d.Pend[:len(d.Pend)-1]
		if len(d.Names) > 0 {
			d.Names = append(d.Names, impl.Entry{Name: "~", Node: small})
		}
	}
}

// Promise 2.
func TestSettledDisksOutliveCrashes(t *testing.T) {
	for seed := range int64(200) {
		r := rand.New(rand.NewSource(seed))
		d := impl.Disk{Quota: anyQuota(r)}
		for range 6 {
			d = impl.DiskDo(d, anyOps(r, 12)).Disk
		}
		var ops []impl.Op
		for _, e := range d.Names {
			ops = append(ops, syncing(e.Name))
		}
		d = must(t, d, append(ops, dir())...)
		want := files(d)
		for _, dirs := range []int{-1, 0, 1, 2, 1000} {
			for _, picks := range [][]int{nil, {0}, {1}, {-1}, {1000000}, anyPicks(r)} {
				if got := impl.DiskCrash(d, dirs, picks); files(got) != want {
					t.Fatalf("seed %d: crash %d %v\n%.2000s", seed, dirs, picks, files(got))
				}
			}
		}
	}
}
