package tests

import (
	"fmt"
	"strings"
	"testing"

	"loop.example/s02349/impl"
)

func create(name string) impl.Op { return impl.Op{Kind: impl.OpCreate, Name: name} }

func put(name, data string) impl.Op {
	return impl.Op{Kind: impl.OpAppend, Name: name, Data: []byte(data)}
}

func syncing(name string) impl.Op { return impl.Op{Kind: impl.OpSync, Name: name} }

func rename(name, to string) impl.Op {
	return impl.Op{Kind: impl.OpRename, Name: name, To: to}
}

func remove(name string) impl.Op { return impl.Op{Kind: impl.OpRemove, Name: name} }

func dir() impl.Op { return impl.Op{Kind: impl.OpDir} }

// tell writes a disk so that an empty list and nil read the same.
func tell(d impl.Disk) string {
	var b strings.Builder
	for _, n := range d.Nodes {
		fmt.Fprintf(&b, "node %q safe %d\n", n.Data, n.Safe)
	}
	for _, e := range d.Names {
		fmt.Fprintf(&b, "name %q %d\n", e.Name, e.Node)
	}
	for _, e := range d.Kept {
		fmt.Fprintf(&b, "kept %q %d\n", e.Name, e.Node)
	}
	for _, p := range d.Pend {
		fmt.Fprintf(&b, "pend %d %q %q %d\n", p.Kind, p.Name, p.To, p.Node)
	}
	fmt.Fprintf(&b, "quota %d", d.Quota)
	return b.String()
}

// files writes what promise 2 speaks of: names, bytes and the quota.
func files(d impl.Disk) string {
	var b strings.Builder
	for _, e := range d.Names {
		fmt.Fprintf(&b, "%q %q\n", e.Name, d.Nodes[e.Node].Data)
	}
	fmt.Fprintf(&b, "quota %d", d.Quota)
	return b.String()
}

func names(list []impl.Entry) string {
	var words []string
	for _, e := range list {
		words = append(words, e.Name)
	}
	return strings.Join(words, " ")
}

// must does operations that are all to be done.
func must(t *testing.T, d impl.Disk, ops ...impl.Op) impl.Disk {
	t.Helper()
	got := impl.DiskDo(d, ops)
	if got.Code != impl.DiskOK || got.Count != len(ops) {
		t.Fatalf("code %d behind %d of %d operations", got.Code, got.Count, len(ops))
	}
	if !impl.DiskValid(got.Disk) {
		t.Fatal("the answer is not valid")
	}
	return got.Disk
}

// refuse does one operation that is to fail and leave the disk as it was.
func refuse(t *testing.T, d impl.Disk, op impl.Op, code int) {
	t.Helper()
	got := impl.DiskDo(d, []impl.Op{op})
	if got.Code != code || got.Count != 0 {
		t.Fatalf("code %d behind %d, want code %d behind 0", got.Code, got.Count, code)
	}
	if tell(got.Disk) != tell(d) {
		t.Fatal("an operation that fails changes the disk")
	}
}

func copyDisk(d impl.Disk) impl.Disk {
	c := impl.Disk{Quota: d.Quota}
	for _, n := range d.Nodes {
		c.Nodes = append(c.Nodes, impl.Node{Data: append([]byte(nil), n.Data...), Safe: n.Safe})
	}
	c.Names = append(c.Names, d.Names...)
	c.Kept = append(c.Kept, d.Kept...)
	c.Pend = append(c.Pend, d.Pend...)
	return c
}

// scribble writes over all that a disk holds, up to the capacity of its lists.
func scribble(d impl.Disk) {
	for i := range d.Nodes {
		scribbleBytes(d.Nodes[i].Data)
	}
	for i := range d.Nodes[:cap(d.Nodes)] {
		d.Nodes[:cap(d.Nodes)][i] = impl.Node{Safe: -7}
	}
	for _, list := range [][]impl.Entry{d.Names, d.Kept} {
		for i := range list[:cap(list)] {
			list[:cap(list)][i] = impl.Entry{Name: "scribbled", Node: -7}
		}
	}
	for i := range d.Pend[:cap(d.Pend)] {
		d.Pend[:cap(d.Pend)][i] = impl.DirOp{Kind: -7}
	}
}

func scribbleBytes(b []byte) {
	b = b[:cap(b)]
	for i := range b {
		b[i] = '#'
	}
}
