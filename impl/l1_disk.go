package impl

import (
	"bytes"
	"cmp"
	"errors"
	"slices"
	"strconv"
)

const (
	MaxNames   = 300
	MaxNodes   = 600
	MaxNameLen = 80
	MaxFileLen = 40000
	MaxDiskLen = 200000
	MaxPend    = 1000
	MaxOps     = 2000
	MaxQuota   = 1000000
)

const (
	OpCreate = 1
	OpAppend = 2
	OpSync   = 3
	OpRename = 4
	OpRemove = 5
	OpDir    = 6
)

const (
	DiskOK      = 0
	DiskBad     = 1
	DiskKind    = 2
	DiskName    = 3
	DiskMissing = 4
	DiskSpace   = 5
	DiskFull    = 6
)

type Node struct {
	Data []byte
	Safe int
}

type Entry struct {
	Name string
	Node int
}

type DirOp struct {
	Kind int
	Name string
	To   string
	Node int
}

type Disk struct {
	Nodes []Node
	Names []Entry
	Kept  []Entry
	Pend  []DirOp
	Quota int
}

type Op struct {
	Kind int
	Name string
	To   string
	Data []byte
}

type Done struct {
	Disk  Disk
	Count int
	Code  int
}

type Content struct {
	Found bool
	Data  []byte
}

// A fault is why an operation fails. It is kept apart from the codes of the
// face so that what does the work speaks in errors alone.
type fault int

const (
	faultKind fault = iota + 1
	faultName
	faultMissing
	faultSpace
	faultFull
)

func (f fault) Error() string {
	switch f {
	case faultKind:
		return "unknown kind"
	case faultName:
		return "not a good name"
	case faultMissing:
		return "no such name"
	case faultSpace:
		return "beyond the quota"
	}
	return "beyond a limit of the disk"
}

// An opFault tells which of many operations met a fault.
type opFault struct {
	number int
	cause  error
}

func (f opFault) Error() string {
	return "operation " + strconv.Itoa(f.number) + ": " + f.cause.Error()
}

func (f opFault) Unwrap() error {
	return f.cause
}

// A listing is a list of entries in order. Replaying asks for single names and
// nodes far more often than for the order, so that is made only when it is told.
type listing struct {
	nodeOf map[string]int
	bound  map[int]struct{}
}

func listingOf(list []Entry) listing {
	l := listing{nodeOf: map[string]int{}, bound: map[int]struct{}{}}
	for _, e := range list {
		l.bind(e.Name, e.Node)
	}
	return l
}

func (l listing) bind(name string, node int) {
	l.drop(name)
	l.nodeOf[name] = node
	l.bound[node] = struct{}{}
}

func (l listing) drop(name string) {
	if node, there := l.nodeOf[name]; there {
		delete(l.bound, node)
		delete(l.nodeOf, name)
	}
}

func (l listing) has(name string) bool {
	_, there := l.nodeOf[name]
	return there
}

func (l listing) entries() []Entry {
	var names []string
	for name := range l.nodeOf {
		names = insertOrdered(names, name)
	}
	list := make([]Entry, 0, len(names))
	for _, name := range names {
		list = append(list, Entry{Name: name, Node: l.nodeOf[name]})
	}
	return list
}

func insertOrdered[T cmp.Ordered](list []T, item T) []T {
	at, _ := slices.BinarySearch(list, item)
	return slices.Insert(list, at, item)
}

// replay answers whether op is good on a disk with that many nodes; one that
// is not good changes nothing.
func (l listing) replay(op DirOp, nodes int) bool {
	if !l.takes(op, nodes) {
		return false
	}
	switch op.Kind {
	case OpCreate:
		l.bind(op.Name, op.Node)
	case OpRename:
		node := l.nodeOf[op.Name]
		l.drop(op.Name)
		l.bind(op.To, node)
	case OpRemove:
		l.drop(op.Name)
	}
	return true
}

func (l listing) takes(op DirOp, nodes int) bool {
	switch op.Kind {
	case OpCreate:
		_, twice := l.bound[op.Node]
		return goodName(op.Name) && op.To == "" && op.Node >= 0 && op.Node < nodes && !twice
	case OpRename:
		return l.has(op.Name) && goodName(op.To) && op.To != op.Name && op.Node == 0
	case OpRemove:
		return l.has(op.Name) && op.To == "" && op.Node == 0
	}
	return false
}

func goodName(name string) bool {
	if len(name) < 1 || len(name) > MaxNameLen {
		return false
	}
	for _, b := range []byte(name) {
		if b < 33 || b > 126 {
			return false
		}
	}
	return true
}

func inOrder(list []Entry, nodes int) bool {
	if len(list) > MaxNames {
		return false
	}
	bound := map[int]struct{}{}
	for i, e := range list {
		if !goodName(e.Name) || e.Node < 0 || e.Node >= nodes {
			return false
		}
		if i > 0 && list[i-1].Name >= e.Name {
			return false
		}
		if _, twice := bound[e.Node]; twice {
			return false
		}
		bound[e.Node] = struct{}{}
	}
	return true
}

func nodesFit(nodes []Node) bool {
	if len(nodes) > MaxNodes {
		return false
	}
	for _, n := range nodes {
		if len(n.Data) > MaxFileLen || n.Safe < 0 || n.Safe > len(n.Data) {
			return false
		}
	}
	return bytesOf(nodes) <= MaxDiskLen
}

func bytesOf(nodes []Node) int {
	total := 0
	for _, n := range nodes {
		total += len(n.Data)
	}
	return total
}

func pendLeavesNames(d Disk) bool {
	if len(d.Pend) > MaxPend {
		return false
	}
	names := listingOf(d.Kept)
	for _, op := range d.Pend {
		if !names.replay(op, len(d.Nodes)) || len(names.nodeOf) > MaxNames {
			return false
		}
	}
	return slices.Equal(names.entries(), d.Names)
}

func DiskValid(d Disk) bool {
	return d.Quota >= 0 && d.Quota <= MaxQuota &&
		nodesFit(d.Nodes) &&
		inOrder(d.Names, len(d.Nodes)) &&
		inOrder(d.Kept, len(d.Nodes)) &&
		pendLeavesNames(d)
}

// A drive is a valid disk at work: a copy, so that the disk it came from stays.
type drive struct {
	nodes []Node
	names listing
	kept  []Entry
	pend  []DirOp
	quota int
}

func driveOf(d Disk) *drive {
	w := &drive{
		names: listingOf(d.Names),
		kept:  slices.Clone(d.Kept),
		pend:  slices.Clone(d.Pend),
		quota: d.Quota,
	}
	for _, n := range d.Nodes {
		w.nodes = append(w.nodes, Node{Data: bytes.Clone(n.Data), Safe: n.Safe})
	}
	return w
}

func (w *drive) disk() Disk {
	return Disk{Nodes: w.nodes, Names: w.names.entries(), Kept: w.kept, Pend: w.pend, Quota: w.quota}
}

// node is for names that are there; the pointer holds until nodes come or go.
func (w *drive) node(name string) *Node {
	return &w.nodes[w.names.nodeOf[name]]
}

func (w *drive) used() int {
	total := 0
	for _, node := range w.names.nodeOf {
		total += len(w.nodes[node].Data)
	}
	return total
}

// change is for changes of names that are known to be good.
func (w *drive) change(op DirOp) {
	w.names.replay(op, len(w.nodes))
	w.pend = append(w.pend, op)
}

func (w *drive) doAll(ops []Op) error {
	for i, op := range ops {
		if err := w.do(op); err != nil {
			return opFault{number: i, cause: err}
		}
	}
	return nil
}

func (w *drive) do(op Op) error {
	if op.Kind < OpCreate || op.Kind > OpDir {
		return faultKind
	}
	if op.Kind == OpDir {
		w.settle()
		return nil
	}
	if !goodName(op.Name) || op.Kind == OpRename && !goodName(op.To) {
		return faultName
	}
	if op.Kind == OpCreate {
		return w.create(op.Name)
	}
	if !w.names.has(op.Name) {
		return faultMissing
	}
	switch op.Kind {
	case OpAppend:
		return w.add(op.Name, op.Data)
	case OpSync:
		node := w.node(op.Name)
		node.Safe = len(node.Data)
		return nil
	case OpRename:
		return w.rename(op.Name, op.To)
	}
	return w.remove(op.Name)
}

func (w *drive) create(name string) error {
	if len(w.nodes) >= MaxNodes || len(w.pend) >= MaxPend {
		return faultFull
	}
	if !w.names.has(name) && len(w.names.nodeOf) >= MaxNames {
		return faultFull
	}
	w.nodes = append(w.nodes, Node{})
	w.change(DirOp{Kind: OpCreate, Name: name, Node: len(w.nodes) - 1})
	return nil
}

func (w *drive) add(name string, data []byte) error {
	if len(data) > w.quota-w.used() {
		return faultSpace
	}
	node := w.node(name)
	if len(node.Data)+len(data) > MaxFileLen || bytesOf(w.nodes)+len(data) > MaxDiskLen {
		return faultFull
	}
	node.Data = append(node.Data, data...)
	return nil
}

func (w *drive) rename(name, to string) error {
	if to == name {
		return nil
	}
	if len(w.pend) >= MaxPend {
		return faultFull
	}
	w.change(DirOp{Kind: OpRename, Name: name, To: to})
	return nil
}

func (w *drive) remove(name string) error {
	if len(w.pend) >= MaxPend {
		return faultFull
	}
	w.change(DirOp{Kind: OpRemove, Name: name})
	return nil
}

// settle makes the names safe; with no change waiting, no node without a name
// can come back, so these go.
func (w *drive) settle() {
	var nodes []Node
	list := w.names.entries()
	for i, e := range list {
		nodes = append(nodes, w.nodes[e.Node])
		list[i].Node = i
	}
	w.nodes = nodes
	w.names = listingOf(list)
	w.kept = list
	w.pend = nil
}

func countOf(err error, all int) int {
	var failed opFault
	if errors.As(err, &failed) {
		return failed.number
	}
	return all
}

func codeOf(err error) int {
	switch {
	case errors.Is(err, faultKind):
		return DiskKind
	case errors.Is(err, faultName):
		return DiskName
	case errors.Is(err, faultMissing):
		return DiskMissing
	case errors.Is(err, faultSpace):
		return DiskSpace
	case errors.Is(err, faultFull):
		return DiskFull
	}
	return DiskOK
}

func DiskDo(d Disk, ops []Op) Done {
	if len(ops) > MaxOps || !DiskValid(d) {
		return Done{Code: DiskBad}
	}
	w := driveOf(d)
	err := w.doAll(ops)
	return Done{Disk: w.disk(), Count: countOf(err, len(ops)), Code: codeOf(err)}
}

func DiskRead(d Disk, name string) Content {
	if !DiskValid(d) {
		return Content{}
	}
	data, found := dataOf(d, name)
	return Content{Found: found, Data: bytes.Clone(data)}
}

// dataOf is for valid disks; it shows the disk's own bytes, which are not to be
// written to or handed out.
func dataOf(d Disk, name string) ([]byte, bool) {
	at, found := slices.BinarySearchFunc(d.Names, name, func(e Entry, name string) int {
		return cmp.Compare(e.Name, name)
	})
	if !found {
		return nil, false
	}
	return d.Nodes[d.Names[at].Node].Data, true
}

func DiskCrash(d Disk, dirs int, picks []int) Disk {
	if !DiskValid(d) {
		return Disk{}
	}
	names := listingOf(d.Kept)
	for _, op := range firstOf(d.Pend, dirs) {
		names.replay(op, len(d.Nodes))
	}
	after := Disk{Quota: d.Quota}
	for i, e := range names.entries() {
		node := d.Nodes[e.Node]
		length := node.Safe + looseKept(picks, i, len(node.Data)-node.Safe)
		after.Nodes = append(after.Nodes, Node{Data: bytes.Clone(node.Data[:length]), Safe: length})
		after.Names = append(after.Names, Entry{Name: e.Name, Node: i})
	}
	after.Kept = slices.Clone(after.Names)
	return after
}

// firstOf takes any number: below 0 it is none, beyond the list's end all.
func firstOf[T any](list []T, n int) []T {
	return list[:min(max(n, 0), len(list))]
}

// looseKept is how many of its loose bytes, those behind Safe, the i-th entry
// keeps.
func looseKept(picks []int, i, loose int) int {
	if len(picks) == 0 {
		return 0
	}
	return max(picks[i%len(picks)], 0) % (loose + 1)
}
