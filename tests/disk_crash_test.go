package tests

import (
	"math"
	"testing"

	"loop.example/s02349/impl"
)

func TestCrashKeepsTheFirstChanges(t *testing.T) {
	d := must(t, impl.Disk{Quota: 99},
		create("a"), put("a", "A"), create("b"), put("b", "B"), dir(),
		rename("a", "c"), create("a"), put("a", "new"), remove("b"), rename("c", "b"))
	for dirs, want := range map[int]string{
		math.MinInt: "a b", -1: "a b", 0: "a b", 1: "b c", 2: "a b c", 3: "a c", 4: "a b", 5: "a b", math.MaxInt: "a b",
	} {
		got := impl.DiskCrash(d, dirs, []int{9999})
		if names(got.Names) != want || !impl.DiskValid(got) {
			t.Error(dirs, tell(got))
		}
	}
	for dirs, want := range map[int]string{0: "AB", 4: "newA"} {
		got := impl.DiskCrash(d, dirs, []int{3, 1})
		if read := string(impl.DiskRead(got, "a").Data) + string(impl.DiskRead(got, "b").Data); read != want {
			t.Error(dirs, read)
		}
	}
}

func TestCrashPicks(t *testing.T) {
	d := must(t, impl.Disk{Quota: 99},
		create("a"), put("a", "1"), syncing("a"), put("a", "234"),
		create("b"), put("b", "567"),
		create("c"), put("c", "89"), syncing("c"))
	for i, row := range []struct {
		picks []int
		want  string
	}{
		{nil, "1||89"},
		{[]int{}, "1||89"},
		{[]int{0}, "1||89"},
		{[]int{-1}, "1||89"},
		{[]int{math.MinInt}, "1||89"},
		{[]int{1}, "12|5|89"},
		{[]int{3}, "1234|567|89"},
		{[]int{4}, "1||89"},
		{[]int{7}, "1234|567|89"},
		{[]int{math.MaxInt}, "1234|567|89"},
		{[]int{2, 1}, "123|5|89"},
		{[]int{-5, 2, 9}, "1|56|89"},
		{[]int{1, -2, 3, 4, 5}, "12||89"},
	} {
		got := impl.DiskCrash(d, 3, row.picks)
		read := ""
		for j, e := range got.Names {
			n := got.Nodes[e.Node]
			if e.Node != j || n.Safe != len(n.Data) {
				t.Error(i, "node", e.Node, "safe", n.Safe)
			}
			read += "|" + string(n.Data)
		}
		if read != "|"+row.want || len(got.Pend) != 0 || got.Quota != 99 || len(got.Nodes) != 3 {
			t.Error(i, read, tell(got))
		}
	}
}

// The picks go by the places behind the replay, not by the nodes' numbers.
func TestCrashPicksByPlace(t *testing.T) {
	d := must(t, impl.Disk{Quota: 99}, create("z"), put("z", "zzzz"), create("m"), put("m", "mmmm"), create("a"), put("a", "aaaa"))
	got := impl.DiskCrash(d, 3, []int{1, 2, 3})
	want := impl.Disk{
		Nodes: []impl.Node{{Data: []byte("a"), Safe: 1}, {Data: []byte("mm"), Safe: 2}, {Data: []byte("zzz"), Safe: 3}},
		Names: manyNamed("a", "m", "z"),
		Kept:  manyNamed("a", "m", "z"),
		Quota: 99,
	}
	if tell(got) != tell(want) {
		t.Fatal(tell(got))
	}
	if got := impl.DiskCrash(d, 2, []int{1, 2, 3}); files(got) != "\"m\" \"m\"\n\"z\" \"zz\"\nquota 99" {
		t.Fatal(files(got))
	}
}

// What was safe stays safe though its file got another name.
func TestCrashFollowsTheNode(t *testing.T) {
	d := must(t, impl.Disk{Quota: 99}, create("a"), put("a", "old"), syncing("a"), dir(),
		create("a.new"), put("a.new", "newer"), syncing("a.new"), rename("a.new", "a"))
	for dirs, want := range []string{"old", "old", "newer"} {
		if got := impl.DiskRead(impl.DiskCrash(d, dirs, nil), "a"); string(got.Data) != want {
			t.Error(dirs, string(got.Data))
		}
	}
}
