package tests

import (
	"fmt"
	"math"
	"strings"
	"testing"

	"loop.example/s02349/impl"
)

func manyEntries(n int) []impl.Entry {
	var list []impl.Entry
	for i := range n {
		list = append(list, impl.Entry{Name: fmt.Sprintf("n%04d", i), Node: i})
	}
	return list
}

func emptyNodes(n int) []impl.Node { return make([]impl.Node, n) }

func fullNodes(sizes ...int) []impl.Node {
	var list []impl.Node
	for _, n := range sizes {
		list = append(list, impl.Node{Data: make([]byte, n), Safe: n})
	}
	return list
}

// turning has n renames of one name to and fro; n is even.
func turning(n int) impl.Disk {
	d := impl.Disk{
		Nodes: emptyNodes(1),
		Names: []impl.Entry{{Name: "a", Node: 0}},
		Kept:  []impl.Entry{{Name: "a", Node: 0}},
	}
	for range n / 2 {
		d.Pend = append(d.Pend,
			impl.DirOp{Kind: impl.OpRename, Name: "a", To: "b"},
			impl.DirOp{Kind: impl.OpRename, Name: "b", To: "a"})
	}
	return d
}

func settled(nodes []impl.Node, list []impl.Entry) impl.Disk {
	return impl.Disk{Nodes: nodes, Names: list, Kept: list, Quota: 9}
}

func TestValidDisks(t *testing.T) {
	one := impl.Node{Data: []byte("xy"), Safe: 1}
	for name, d := range map[string]impl.Disk{
		"zero":           {},
		"quota":          {Quota: impl.MaxQuota},
		"nodes":          {Nodes: emptyNodes(impl.MaxNodes)},
		"names":          settled(emptyNodes(impl.MaxNames), manyEntries(impl.MaxNames)),
		"file":           {Nodes: fullNodes(impl.MaxFileLen)},
		"disk":           {Nodes: fullNodes(40000, 40000, 40000, 40000, 39999, 1)},
		"pend":           turning(impl.MaxPend),
		"all is safe":    {Nodes: []impl.Node{{Data: []byte("xy"), Safe: 2}}},
		"over the quota": {Nodes: []impl.Node{one}, Names: manyEntries(1), Kept: manyEntries(1)},
		"longest name":   settled([]impl.Node{one}, []impl.Entry{{Name: strings.Repeat("!", impl.MaxNameLen)}}),
		"edges of bytes": settled([]impl.Node{one}, []impl.Entry{{Name: "!~"}}),
		"prefix first":   settled(emptyNodes(3), []impl.Entry{{Name: "a", Node: 2}, {Name: "aa", Node: 0}, {Name: "b", Node: 1}}),
		"replaced": {Nodes: emptyNodes(2), Names: []impl.Entry{{Name: "a", Node: 1}}, Kept: manyNamed("a"),
			Pend: []impl.DirOp{{Kind: impl.OpCreate, Name: "a", Node: 1}}},
		"a node used again": {Nodes: emptyNodes(1), Names: manyNamed("b"), Kept: manyNamed("a"),
			Pend: []impl.DirOp{{Kind: impl.OpRemove, Name: "a"}, {Kind: impl.OpCreate, Name: "b"}}},
		"the node of a replaced name used again": {Nodes: emptyNodes(2), Kept: manyNamed("a"),
			Names: []impl.Entry{{Name: "a", Node: 1}, {Name: "b", Node: 0}},
			Pend:  []impl.DirOp{{Kind: impl.OpCreate, Name: "a", Node: 1}, {Kind: impl.OpCreate, Name: "b", Node: 0}}},
		"the node renamed over used again": {Nodes: emptyNodes(2), Kept: manyNamed("a", "b"),
			Names: []impl.Entry{{Name: "b", Node: 0}, {Name: "c", Node: 1}},
			Pend:  []impl.DirOp{{Kind: impl.OpRename, Name: "a", To: "b"}, {Kind: impl.OpCreate, Name: "c", Node: 1}}},
		"renamed over": {Nodes: emptyNodes(2), Names: manyNamed("b"), Kept: manyNamed("a", "b"),
			Pend: []impl.DirOp{{Kind: impl.OpRename, Name: "a", To: "b"}}},
	} {
		if !impl.DiskValid(d) || !modelValid(d) {
			t.Error(name, impl.DiskValid(d), modelValid(d))
		}
	}
}

// manyNamed binds the names to the nodes 0, 1, ..
func manyNamed(names ...string) []impl.Entry {
	var list []impl.Entry
	for i, n := range names {
		list = append(list, impl.Entry{Name: n, Node: i})
	}
	return list
}

func wrongDisks() map[string]impl.Disk {
	names301 := settled(emptyNodes(impl.MaxNames+1), manyEntries(impl.MaxNames+1))
	return map[string]impl.Disk{
		"quota below 0":        {Quota: -1},
		"least quota":          {Quota: math.MinInt},
		"quota too high":       {Quota: impl.MaxQuota + 1},
		"too many nodes":       {Nodes: emptyNodes(impl.MaxNodes + 1)},
		"file too long":        {Nodes: fullNodes(impl.MaxFileLen + 1)},
		"disk too long":        {Nodes: fullNodes(40000, 40000, 40000, 40000, 40000, 1)},
		"Safe below 0":         {Nodes: []impl.Node{{Safe: -1}}},
		"Safe beyond":          {Nodes: []impl.Node{{Data: []byte("a"), Safe: 2}}},
		"too many names":       names301,
		"too much pending":     turning(impl.MaxPend + 2),
		"names are not kept":   {Nodes: emptyNodes(1), Names: manyNamed("a")},
		"kept are not names":   {Nodes: emptyNodes(1), Kept: manyNamed("a")},
		"other nodes":          {Nodes: emptyNodes(2), Names: manyNamed("a"), Kept: []impl.Entry{{Name: "a", Node: 1}}},
		"empty name":           settled(emptyNodes(1), manyNamed("")),
		"blank":                settled(emptyNodes(1), manyNamed("a b")),
		"byte 127":             settled(emptyNodes(1), manyNamed("a\x7f")),
		"byte 0":               settled(emptyNodes(1), manyNamed("\x00")),
		"byte 128":             settled(emptyNodes(1), manyNamed("a\x80")),
		"two bytes of a rune":  settled(emptyNodes(1), manyNamed("\u00e9")),
		"name too long":        settled(emptyNodes(1), manyNamed(strings.Repeat("a", impl.MaxNameLen+1))),
		"names fall":           settled(emptyNodes(2), manyNamed("b", "a")),
		"names equal":          settled(emptyNodes(2), manyNamed("a", "a")),
		"longer ahead":         settled(emptyNodes(2), manyNamed("aa", "a")),
		"node below 0":         settled(emptyNodes(1), []impl.Entry{{Name: "a", Node: -1}}),
		"node beyond":          settled(emptyNodes(1), []impl.Entry{{Name: "a", Node: 1}}),
		"one node, two names":  settled(emptyNodes(1), []impl.Entry{{Name: "a"}, {Name: "b"}}),
		"a name of no node":    settled(nil, manyNamed("a")),
		"kept alone has twice": keptTwice(),
		"kept alone falls":     {Nodes: emptyNodes(2), Names: []impl.Entry{{Name: "a", Node: 1}, {Name: "b"}}, Kept: manyNamed("b", "a")},
		"kept alone is equal":  {Nodes: emptyNodes(2), Names: []impl.Entry{{Name: "a", Node: 1}}, Kept: manyNamed("a", "a")},
	}
}

// keptTwice is wrong in Kept alone: its Pend leaves Names.
func keptTwice() impl.Disk {
	return impl.Disk{
		Nodes: emptyNodes(1),
		Kept:  []impl.Entry{{Name: "a"}, {Name: "b"}},
		Pend:  []impl.DirOp{{Kind: impl.OpRemove, Name: "a"}, {Kind: impl.OpRemove, Name: "b"}},
	}
}

func TestWrongDisks(t *testing.T) {
	for name, d := range wrongDisks() {
		if impl.DiskValid(d) || modelValid(d) {
			t.Error(name, "is taken for valid")
		}
		if got := impl.DiskDo(d, []impl.Op{dir()}); got.Code != impl.DiskBad || got.Count != 0 || tell(got.Disk) != tell(impl.Disk{}) {
			t.Error(name, "DiskDo", got.Code, got.Count)
		}
		if got := impl.DiskRead(d, "a"); got.Found || len(got.Data) != 0 {
			t.Error(name, "DiskRead", got)
		}
		if got := impl.DiskCrash(d, 1, []int{1}); tell(got) != tell(impl.Disk{}) {
			t.Error(name, "DiskCrash", tell(got))
		}
	}
}

// Each row is replayed over the names "a" and "b" of the nodes 0 and 1; node 2
// has no name. leaves is what it leaves or, if it is not good, what it would.
func TestReplay(t *testing.T) {
	long := strings.Repeat("z", impl.MaxNameLen+1)
	for i, row := range []struct {
		op     impl.DirOp
		good   bool
		leaves string
	}{
		{impl.DirOp{Kind: impl.OpCreate, Name: "c", Node: 2}, true, "a0 b1 c2"},
		{impl.DirOp{Kind: impl.OpCreate, Name: "aa", Node: 2}, true, "a0 aa2 b1"},
		{impl.DirOp{Kind: impl.OpCreate, Name: "a", Node: 2}, true, "a2 b1"},
		{impl.DirOp{Kind: impl.OpCreate, Name: "a", Node: 0}, false, "a0 b1"},
		{impl.DirOp{Kind: impl.OpCreate, Name: "c", Node: 1}, false, "a0 b1 c1"},
		{impl.DirOp{Kind: impl.OpCreate, Name: "c", Node: 3}, false, "a0 b1 c3"},
		{impl.DirOp{Kind: impl.OpCreate, Name: "c", Node: -1}, false, "a0 b1"},
		{impl.DirOp{Kind: impl.OpCreate, Name: "c", To: "d", Node: 2}, false, "a0 b1 c2"},
		{impl.DirOp{Kind: impl.OpCreate, Name: "", Node: 2}, false, "2 a0 b1"},
		{impl.DirOp{Kind: impl.OpCreate, Name: long, Node: 2}, false, "a0 b1 " + long + "2"},
		{impl.DirOp{Kind: impl.OpRename, Name: "a", To: "c"}, true, "b1 c0"},
		{impl.DirOp{Kind: impl.OpRename, Name: "a", To: "b"}, true, "b0"},
		{impl.DirOp{Kind: impl.OpRename, Name: "a", To: "a"}, false, "a0 b1"},
		{impl.DirOp{Kind: impl.OpRename, Name: "a", To: ""}, false, "0 b1"},
		{impl.DirOp{Kind: impl.OpRename, Name: "a", To: long}, false, "b1 " + long + "0"},
		{impl.DirOp{Kind: impl.OpRename, Name: "c", To: "d"}, false, "a0 b1"},
		{impl.DirOp{Kind: impl.OpRename, Name: "a", To: "c", Node: 2}, false, "b1 c0"},
		{impl.DirOp{Kind: impl.OpRename, Name: "a", To: "c", Node: -1}, false, "b1 c0"},
		{impl.DirOp{Kind: impl.OpRemove, Name: "a"}, true, "b1"},
		{impl.DirOp{Kind: impl.OpRemove, Name: "c"}, false, "a0 b1"},
		{impl.DirOp{Kind: impl.OpRemove, Name: "a", To: "b"}, false, "b1"},
		{impl.DirOp{Kind: impl.OpRemove, Name: "a", Node: 1}, false, "b1"},
		{impl.DirOp{Kind: impl.OpAppend, Name: "a"}, false, "a0 b1"},
		{impl.DirOp{Kind: impl.OpSync, Name: "a"}, false, "a0 b1"},
		{impl.DirOp{Kind: impl.OpDir}, false, "a0 b1"},
		{impl.DirOp{Kind: 0}, false, "a0 b1"},
		{impl.DirOp{Kind: 7, Name: "a"}, false, "a0 b1"},
	} {
		d := impl.Disk{Nodes: emptyNodes(3), Kept: manyNamed("a", "b"), Pend: []impl.DirOp{row.op}}
		for _, word := range strings.Fields(row.leaves) {
			last := len(word) - 1
			d.Names = append(d.Names, impl.Entry{Name: word[:last], Node: int(word[last] - '0')})
		}
		if impl.DiskValid(d) != row.good || modelValid(d) != row.good {
			t.Error(i, row.op, impl.DiskValid(d), modelValid(d))
		}
	}
}

// Names that are not good may come and go within the waiting changes, so that
// Names itself shows nothing of them.
func TestPendHidesABadName(t *testing.T) {
	for _, bad := range []string{"", "a b", "\x7f", strings.Repeat("z", impl.MaxNameLen+1)} {
		made := impl.Disk{Nodes: emptyNodes(1), Pend: []impl.DirOp{
			{Kind: impl.OpCreate, Name: bad},
			{Kind: impl.OpRemove, Name: bad},
		}}
		moved := settled(emptyNodes(1), manyNamed("a"))
		moved.Pend = []impl.DirOp{
			{Kind: impl.OpRename, Name: "a", To: bad},
			{Kind: impl.OpRename, Name: bad, To: "a"},
		}
		if impl.DiskValid(made) || impl.DiskValid(moved) {
			t.Errorf("%q", bad)
		}
	}
}

func TestPendHidesABadNode(t *testing.T) {
	for _, node := range []int{-1, 0, 1} {
		d := settled(emptyNodes(1), manyNamed("a"))
		d.Pend = []impl.DirOp{{Kind: impl.OpCreate, Name: "b", Node: node}, {Kind: impl.OpRemove, Name: "b"}}
		if impl.DiskValid(d) {
			t.Error(node)
		}
	}
}

func TestPendOverfillsOnTheWay(t *testing.T) {
	d := settled(emptyNodes(impl.MaxNames+1), manyEntries(impl.MaxNames))
	d.Pend = []impl.DirOp{
		{Kind: impl.OpCreate, Name: "x", Node: impl.MaxNames},
		{Kind: impl.OpRemove, Name: "x"},
	}
	if impl.DiskValid(d) {
		t.Fatal("one name too many on the way")
	}
	d.Pend[0], d.Pend[1] = impl.DirOp{Kind: impl.OpRemove, Name: "n0000"}, impl.DirOp{Kind: impl.OpCreate, Name: "n0000", Node: 0}
	if !impl.DiskValid(d) {
		t.Fatal("never more than MaxNames")
	}
}
