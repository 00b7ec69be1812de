package tests

import (
	"fmt"
	"math"
	"strings"
	"testing"

	"loop.example/s02349/impl"
)

func TestCreateReplacesAndKeepsTheOldNode(t *testing.T) {
	d := must(t, impl.Disk{Quota: 9}, create("a"), put("a", "old"), create("b"), create("a"))
	want := impl.Disk{
		Nodes: []impl.Node{{Data: []byte("old")}, {}, {}},
		Names: []impl.Entry{{Name: "a", Node: 2}, {Name: "b", Node: 1}},
		Pend: []impl.DirOp{
			{Kind: impl.OpCreate, Name: "a", Node: 0},
			{Kind: impl.OpCreate, Name: "b", Node: 1},
			{Kind: impl.OpCreate, Name: "a", Node: 2},
		},
		Quota: 9,
	}
	if tell(d) != tell(want) {
		t.Fatal(tell(d))
	}
}

func TestAppendAndSync(t *testing.T) {
	d := must(t, impl.Disk{Quota: 9}, create("a"), create("b"), put("b", "12"), put("a", "x"), syncing("b"), put("b", "\x00\xff"))
	if string(d.Nodes[1].Data) != "12\x00\xff" || d.Nodes[1].Safe != 2 || string(d.Nodes[0].Data) != "x" || d.Nodes[0].Safe != 0 {
		t.Fatal(tell(d))
	}
}

func TestRenameWritesTheWaitingList(t *testing.T) {
	d := must(t, impl.Disk{Quota: 9}, create("b"), create("a"), dir(), rename("b", "a"), rename("a", "a"), remove("a"))
	want := []impl.DirOp{{Kind: impl.OpRename, Name: "b", To: "a"}, {Kind: impl.OpRemove, Name: "a"}}
	if fmt.Sprint(d.Pend) != fmt.Sprint(want) || len(d.Names) != 0 || names(d.Kept) != "a b" || len(d.Nodes) != 2 {
		t.Fatal(tell(d))
	}
}

func TestDirNumbersNodesAnew(t *testing.T) {
	d := must(t, impl.Disk{Quota: 99},
		create("c"), put("c", "of c"), syncing("c"),
		create("gone"), put("gone", "12345"),
		create("aa"), put("aa", "of aa"),
		create("a"), put("a", "of a"),
		remove("gone"), rename("c", "b"), dir())
	want := impl.Disk{
		Nodes: []impl.Node{{Data: []byte("of a")}, {Data: []byte("of aa")}, {Data: []byte("of c"), Safe: 4}},
		Names: manyNamed("a", "aa", "b"),
		Kept:  manyNamed("a", "aa", "b"),
		Quota: 99,
	}
	if tell(d) != tell(want) {
		t.Fatal(tell(d))
	}
	if again := must(t, d, dir()); tell(again) != tell(want) {
		t.Fatal("a second OpDir", tell(again))
	}
}

func TestDirLooksAtNoField(t *testing.T) {
	d := must(t, impl.Disk{}, impl.Op{Kind: impl.OpDir, Name: "a b", To: "\n", Data: make([]byte, 3)})
	if tell(d) != tell(impl.Disk{}) {
		t.Fatal(tell(d))
	}
}

func TestFieldsThatAKindDoesNotName(t *testing.T) {
	d := must(t, impl.Disk{Quota: 3},
		impl.Op{Kind: impl.OpCreate, Name: "a", To: "b c", Data: []byte("too long for it")},
		impl.Op{Kind: impl.OpAppend, Name: "a", To: "\x00", Data: []byte("abc")},
		impl.Op{Kind: impl.OpSync, Name: "a", To: "\x00", Data: []byte("d")},
		impl.Op{Kind: impl.OpRename, Name: "a", To: "b", Data: []byte("d")},
		impl.Op{Kind: impl.OpRemove, Name: "b", To: " ", Data: []byte("d")})
	for _, p := range d.Pend {
		if p.Kind != impl.OpRename && p.To != "" || p.Node != 0 {
			t.Fatal(p)
		}
	}
	if len(d.Names) != 0 || string(d.Nodes[0].Data) != "abc" {
		t.Fatal(tell(d))
	}
}

func TestUnknownKinds(t *testing.T) {
	d := must(t, impl.Disk{Quota: 9}, create("a"))
	for _, kind := range []int{0, 7, -1, math.MaxInt, math.MinInt} {
		refuse(t, d, impl.Op{Kind: kind, Name: "a"}, impl.DiskKind)
		refuse(t, d, impl.Op{Kind: kind, Name: "", To: ""}, impl.DiskKind)
	}
}

func TestNames(t *testing.T) {
	longest := strings.Repeat("~", impl.MaxNameLen)
	d := must(t, impl.Disk{Quota: 9}, create(longest), create("!"), rename("!", longest), create("a"))
	bad := []string{"", longest + "~"}
	for b := range 256 {
		name := "x" + string([]byte{byte(b)}) + "y"
		if b >= 33 && b <= 126 {
			must(t, d, create(name), rename("a", name))
			continue
		}
		bad = append(bad, name)
	}
	for _, name := range bad {
		for kind := impl.OpCreate; kind < impl.OpDir; kind++ {
			refuse(t, d, impl.Op{Kind: kind, Name: name, To: "b"}, impl.DiskName)
		}
		refuse(t, d, rename("a", name), impl.DiskName)
		refuse(t, d, rename("missing", name), impl.DiskName)
	}
}

func TestMissing(t *testing.T) {
	d := must(t, impl.Disk{Quota: 1}, create("a"), create("gone"), remove("gone"), create("moved"), rename("moved", "b"))
	for _, name := range []string{"gone", "moved", "never", "A"} {
		refuse(t, d, put(name, "too long"), impl.DiskMissing)
		refuse(t, d, syncing(name), impl.DiskMissing)
		refuse(t, d, rename(name, "a"), impl.DiskMissing)
		refuse(t, d, rename(name, name), impl.DiskMissing)
		refuse(t, d, remove(name), impl.DiskMissing)
	}
}

func TestSpaceCountsNamedNodesAlone(t *testing.T) {
	d := must(t, impl.Disk{Quota: 10}, create("a"), put("a", "123456"), create("b"), put("b", "1234"))
	refuse(t, d, put("b", "5"), impl.DiskSpace)
	must(t, d, put("b", ""))
	must(t, d, remove("a"), put("b", "567890"))
	must(t, d, create("a"), put("b", "567890"))
	must(t, d, rename("b", "a"), put("a", "567890"))
	d = must(t, d, remove("a"), put("b", "567890"))
	refuse(t, d, put("b", "1"), impl.DiskSpace)
}

func TestAppendOverTheQuota(t *testing.T) {
	d := must(t, impl.Disk{Quota: 5}, create("a"), put("a", "12345"), dir())
	d.Quota = 4
	refuse(t, d, put("a", ""), impl.DiskSpace)
	must(t, d, syncing("a"), rename("a", "b"), create("c"), remove("b"), put("c", "1234"))
	refuse(t, impl.Disk{Nodes: emptyNodes(1), Names: manyNamed("a"), Kept: manyNamed("a")}, put("a", "1"), impl.DiskSpace)
}

func TestFileLength(t *testing.T) {
	most := strings.Repeat("m", impl.MaxFileLen)
	d := must(t, impl.Disk{Quota: impl.MaxQuota}, create("a"), put("a", most))
	refuse(t, d, put("a", "1"), impl.DiskFull)
	must(t, d, put("a", ""))
	d = must(t, impl.Disk{Quota: impl.MaxFileLen}, create("a"), put("a", "1"))
	refuse(t, d, put("a", most), impl.DiskSpace)
	must(t, d, put("a", most[1:]))
}

func TestDiskLengthCountsAllNodes(t *testing.T) {
	most := strings.Repeat("m", impl.MaxFileLen)
	d := impl.Disk{Quota: impl.MaxQuota}
	for i := range 5 {
		name := fmt.Sprint("f", i)
		d = must(t, d, create(name), put(name, most))
	}
	d = must(t, d, create("g"), put("g", ""))
	refuse(t, d, put("g", "1"), impl.DiskFull)
	d = must(t, d, remove("f0"))
	refuse(t, d, put("g", "1"), impl.DiskFull)
	d = must(t, d, dir(), put("g", most))
	d = must(t, d, create("h"))
	refuse(t, d, put("h", "1"), impl.DiskFull)
}

func TestMostNames(t *testing.T) {
	var ops []impl.Op
	for _, e := range manyEntries(impl.MaxNames) {
		ops = append(ops, create(e.Name))
	}
	d := must(t, impl.Disk{}, ops...)
	refuse(t, d, create("x"), impl.DiskFull)
	must(t, d, create("n0000"))
	must(t, d, rename("n0000", "x"))
	must(t, d, remove("n0000"), create("x"))
	must(t, must(t, d, dir()), create("n0299"))
}

func TestMostNodes(t *testing.T) {
	var ops []impl.Op
	for range impl.MaxNodes {
		ops = append(ops, create("a"))
	}
	d := must(t, impl.Disk{Quota: 1}, ops...)
	if len(d.Nodes) != impl.MaxNodes || len(d.Names) != 1 || d.Names[0].Node != impl.MaxNodes-1 {
		t.Fatal(len(d.Nodes), d.Names)
	}
	refuse(t, d, create("a"), impl.DiskFull)
	refuse(t, d, create("b"), impl.DiskFull)
	must(t, d, put("a", "1"), syncing("a"), rename("a", "b"), remove("b"))
	if d = must(t, d, dir(), create("b")); len(d.Nodes) != 2 {
		t.Fatal(len(d.Nodes))
	}
}

func TestMostPending(t *testing.T) {
	d := turning(impl.MaxPend)
	d.Quota = 1
	refuse(t, d, create("a"), impl.DiskFull)
	refuse(t, d, create("c"), impl.DiskFull)
	refuse(t, d, rename("a", "c"), impl.DiskFull)
	refuse(t, d, remove("a"), impl.DiskFull)
	refuse(t, d, rename("c", "a"), impl.DiskMissing)
	refuse(t, d, remove("c"), impl.DiskMissing)
	must(t, d, put("a", "1"), syncing("a"), rename("a", "a"))
	must(t, d, dir(), rename("a", "c"), remove("c"))
	almost := turning(impl.MaxPend - 2)
	must(t, almost, create("c"), remove("c"))
	must(t, almost, create("c"), rename("c", "a"))
	if got := impl.DiskDo(almost, []impl.Op{remove("a"), create("a"), dir(), create("b")}); got.Code != impl.DiskOK || got.Count != 4 {
		t.Fatal(got.Code, got.Count)
	}
}

func TestMostOperations(t *testing.T) {
	ops := make([]impl.Op, impl.MaxOps+1)
	for i := range ops {
		ops[i] = dir()
	}
	d := must(t, impl.Disk{Quota: 7}, ops[:impl.MaxOps]...)
	got := impl.DiskDo(d, ops)
	if got.Code != impl.DiskBad || got.Count != 0 || tell(got.Disk) != tell(impl.Disk{}) {
		t.Fatal(got.Code, got.Count, tell(got.Disk))
	}
	ops[3] = impl.Op{}
	if got := impl.DiskDo(d, ops); got.Code != impl.DiskBad || got.Count != 0 {
		t.Fatal("too many, and one of them wrong", got.Code, got.Count)
	}
}

func TestCountStopsAtTheFirstFault(t *testing.T) {
	ops := []impl.Op{create("a"), put("a", "12"), remove("zz"), create("b"), {Kind: 9}}
	got := impl.DiskDo(impl.Disk{Quota: 2}, ops)
	if got.Code != impl.DiskMissing || got.Count != 2 || names(got.Disk.Names) != "a" || string(got.Disk.Nodes[0].Data) != "12" {
		t.Fatal(got.Code, got.Count, tell(got.Disk))
	}
	if got := impl.DiskDo(impl.Disk{Quota: 2}, nil); got.Code != impl.DiskOK || got.Count != 0 || got.Disk.Quota != 2 {
		t.Fatal("no operations", got)
	}
}

func TestRead(t *testing.T) {
	d := must(t, impl.Disk{Quota: 9}, create("a"), put("a", "12"), syncing("a"), put("a", "34"), create("b"), create("c"), put("c", "z"), dir(), remove("c"))
	for name, want := range map[string]string{"a": "1234", "b": ""} {
		if got := impl.DiskRead(d, name); !got.Found || string(got.Data) != want {
			t.Fatal(name, got)
		}
	}
	for _, name := range []string{"c", "d", "", "a ", strings.Repeat("a", 900)} {
		if got := impl.DiskRead(d, name); got.Found || len(got.Data) != 0 {
			t.Fatal(name, got)
		}
	}
}

// Nothing that was handed in is written to or kept, and no two lists of an
// answer share memory.
func TestMemoryOfDisks(t *testing.T) {
	d := must(t, impl.Disk{Quota: 99}, create("a"), put("a", "12"), create("b"), put("b", "34"), dir(), rename("a", "c"), create("d"), put("d", "56"))
	first := tell(d)
	ops := []impl.Op{put("c", "78"), create("e"), put("e", "90"), rename("b", "f")}
	done := impl.DiskDo(d, ops)
	told := tell(done.Disk)
	idle := impl.DiskDo(d, nil).Disk
	fallen := impl.DiskCrash(d, 9, []int{5})
	toldFallen := tell(fallen)
	read := impl.DiskRead(d, "d")
	if tell(d) != first || string(ops[0].Data) != "78" {
		t.Fatal("an argument was written to")
	}
	scribbleBytes(ops[0].Data)
	scribble(d)
	if tell(done.Disk) != told || tell(idle) != first || tell(fallen) != toldFallen || string(read.Data) != "56" {
		t.Fatal("an answer holds memory of an argument")
	}
	settled := must(t, done.Disk, dir())
	for _, disk := range []impl.Disk{settled, fallen} {
		before := names(disk.Kept)
		disk.Names[0].Name = "scribbled"
		if names(disk.Kept) != before {
			t.Fatal("Names and Kept share memory")
		}
		nodes := tell(impl.Disk{Nodes: disk.Nodes[1:]})
		scribbleBytes(disk.Nodes[0].Data)
		if tell(impl.Disk{Nodes: disk.Nodes[1:]}) != nodes {
			t.Fatal("nodes share memory")
		}
	}
}
