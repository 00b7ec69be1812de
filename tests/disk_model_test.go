package tests

import (
	"sort"

	"loop.example/s02349/impl"
)

// A second telling of Chapter 1 in the plainest words: lists that are searched
// from the front and sorted behind every change.

func modelGoodName(s string) bool {
	for i := 0; i < len(s); i++ {
		if s[i] <= ' ' || s[i] >= 127 {
			return false
		}
	}
	return s != "" && len(s) <= 80
}

func modelFind(list []impl.Entry, name string) int {
	for i, e := range list {
		if e.Name == name {
			return i
		}
	}
	return -1
}

func modelWithout(list []impl.Entry, name string) []impl.Entry {
	var out []impl.Entry
	for _, e := range list {
		if e.Name != name {
			out = append(out, e)
		}
	}
	return out
}

func modelWith(list []impl.Entry, name string, node int) []impl.Entry {
	out := append(modelWithout(list, name), impl.Entry{Name: name, Node: node})
	sort.Slice(out, func(i, j int) bool { return out[i].Name < out[j].Name })
	return out
}

func modelReplay(list []impl.Entry, op impl.DirOp, nodes int) ([]impl.Entry, bool) {
	at := modelFind(list, op.Name)
	switch op.Kind {
	case impl.OpCreate:
		for _, e := range list {
			if e.Node == op.Node {
				return nil, false
			}
		}
		good := modelGoodName(op.Name) && op.To == "" && 0 <= op.Node && op.Node < nodes
		return modelWith(list, op.Name, op.Node), good
	case impl.OpRename:
		if at < 0 || !modelGoodName(op.To) || op.To == op.Name || op.Node != 0 {
			return nil, false
		}
		return modelWith(modelWithout(list, op.Name), op.To, list[at].Node), true
	case impl.OpRemove:
		return modelWithout(list, op.Name), at >= 0 && op.To == "" && op.Node == 0
	}
	return nil, false
}

func modelInOrder(list []impl.Entry, nodes int) bool {
	for i, e := range list {
		if !modelGoodName(e.Name) || e.Node < 0 || e.Node >= nodes {
			return false
		}
		for _, f := range list[:i] {
			if f.Name >= e.Name || f.Node == e.Node {
				return false
			}
		}
	}
	return len(list) <= 300
}

func modelValid(d impl.Disk) bool {
	total := 0
	for _, n := range d.Nodes {
		if len(n.Data) > 40000 || n.Safe < 0 || n.Safe > len(n.Data) {
			return false
		}
		total += len(n.Data)
	}
	if d.Quota < 0 || d.Quota > 1000000 || len(d.Nodes) > 600 || total > 200000 || len(d.Pend) > 1000 {
		return false
	}
	if !modelInOrder(d.Names, len(d.Nodes)) || !modelInOrder(d.Kept, len(d.Nodes)) {
		return false
	}
	list := d.Kept
	for _, op := range d.Pend {
		var good bool
		if list, good = modelReplay(list, op, len(d.Nodes)); !good || len(list) > 300 {
			return false
		}
	}
	return tell(impl.Disk{Names: list}) == tell(impl.Disk{Names: d.Names})
}

func modelUsed(d impl.Disk) (used, all int) {
	for _, e := range d.Names {
		used += len(d.Nodes[e.Node].Data)
	}
	for _, n := range d.Nodes {
		all += len(n.Data)
	}
	return used, all
}

func modelChange(d *impl.Disk, op impl.DirOp) {
	d.Names, _ = modelReplay(d.Names, op, len(d.Nodes))
	d.Pend = append(d.Pend, op)
}

// modelOp changes d, unless it answers a fault.
func modelOp(d *impl.Disk, op impl.Op) int {
	at := modelFind(d.Names, op.Name)
	switch {
	case op.Kind < 1 || op.Kind > 6:
		return impl.DiskKind
	case op.Kind == impl.OpDir:
		modelDir(d)
		return impl.DiskOK
	case !modelGoodName(op.Name):
		return impl.DiskName
	case op.Kind == impl.OpRename && !modelGoodName(op.To):
		return impl.DiskName
	case op.Kind == impl.OpCreate:
		if len(d.Nodes) == 600 || len(d.Pend) == 1000 || at < 0 && len(d.Names) == 300 {
			return impl.DiskFull
		}
		d.Nodes = append(d.Nodes, impl.Node{})
		modelChange(d, impl.DirOp{Kind: impl.OpCreate, Name: op.Name, Node: len(d.Nodes) - 1})
	case at < 0:
		return impl.DiskMissing
	case op.Kind == impl.OpAppend:
		return modelAppend(d, d.Names[at].Node, op.Data)
	case op.Kind == impl.OpSync:
		d.Nodes[d.Names[at].Node].Safe = len(d.Nodes[d.Names[at].Node].Data)
	case op.Kind == impl.OpRename && op.To == op.Name:
	case len(d.Pend) == 1000:
		return impl.DiskFull
	case op.Kind == impl.OpRename:
		modelChange(d, impl.DirOp{Kind: impl.OpRename, Name: op.Name, To: op.To})
	default:
		modelChange(d, impl.DirOp{Kind: impl.OpRemove, Name: op.Name})
	}
	return impl.DiskOK
}

func modelAppend(d *impl.Disk, node int, data []byte) int {
	used, all := modelUsed(*d)
	if used+len(data) > d.Quota {
		return impl.DiskSpace
	}
	if len(d.Nodes[node].Data)+len(data) > 40000 || all+len(data) > 200000 {
		return impl.DiskFull
	}
	d.Nodes[node].Data = append(d.Nodes[node].Data, data...)
	return impl.DiskOK
}

func modelDir(d *impl.Disk) {
	var nodes []impl.Node
	var list []impl.Entry
	for i, e := range d.Names {
		nodes = append(nodes, d.Nodes[e.Node])
		list = append(list, impl.Entry{Name: e.Name, Node: i})
	}
	d.Nodes, d.Names, d.Pend = nodes, list, nil
	d.Kept = append([]impl.Entry(nil), list...)
}

func modelDo(d impl.Disk, ops []impl.Op) impl.Done {
	if !modelValid(d) || len(ops) > 2000 {
		return impl.Done{Code: impl.DiskBad}
	}
	done := impl.Done{Disk: copyDisk(d)}
	for _, op := range ops {
		if done.Code = modelOp(&done.Disk, op); done.Code != impl.DiskOK {
			break
		}
		done.Count++
	}
	return done
}

func modelCrash(d impl.Disk, dirs int, picks []int) impl.Disk {
	if !modelValid(d) {
		return impl.Disk{}
	}
	list := d.Kept
	for i, op := range d.Pend {
		if i < dirs {
			list, _ = modelReplay(list, op, len(d.Nodes))
		}
	}
	after := impl.Disk{Quota: d.Quota}
	for i, e := range list {
		n := d.Nodes[e.Node]
		keep := n.Safe
		if len(picks) > 0 && picks[i%len(picks)] > 0 {
			keep += picks[i%len(picks)] % (len(n.Data) - n.Safe + 1)
		}
		after.Nodes = append(after.Nodes, impl.Node{Data: append([]byte(nil), n.Data[:keep]...), Safe: keep})
		after.Names = append(after.Names, impl.Entry{Name: e.Name, Node: i})
	}
	after.Kept = append(after.Kept, after.Names...)
	return after
}
