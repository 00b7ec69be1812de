package tests

import (
	"fmt"
	"regexp"
	"sort"
	"strconv"
	"strings"

	"loop.example/s02349/impl"
)

// A second telling of Chapter 5 in the plainest words: files in a map, records
// held against patterns, operations written out one by one.

type plainMail struct {
	impl.Mail
	entry   string
	bare    string
	flags   uint32 // those that the index has
	stamp   int64
	hasCard bool
	card    string
}

type plainBox struct {
	kind   int
	files  map[string]string
	header impl.View
	gen    int
	text   string
	mails  []plainMail
	good   map[string]int // how many bytes of a file count
	order  []string       // the files that may have more
}

const plainNumber = `(0|[1-9][0-9]{0,12})`

var (
	indexHead   = regexp.MustCompile(`^V ` + plainNumber + ` ` + plainNumber + ` ` + plainNumber + `$`)
	indexMail   = regexp.MustCompile(`^A ` + plainNumber + ` ` + plainNumber + ` ` + plainNumber + ` ` + plainNumber + ` ([01])$`)
	indexFlags  = regexp.MustCompile(`^F ` + plainNumber + ` ` + plainNumber + `$`)
	cursorMail  = regexp.MustCompile(`^C ` + plainNumber + `$`)
	uidlistHead = regexp.MustCompile(`^V ` + plainNumber + ` ` + plainNumber + `$`)
	uidlistDead = regexp.MustCompile(`^X ` + plainNumber + `((?: ` + plainNumber + `)+)$`)
)

const greatestUid = 4294967295

func numbersOf(list []string) []int {
	var out []int
	for _, word := range list {
		n, _ := strconv.Atoi(word)
		out = append(out, n)
	}
	return out
}

func within(n, least, most int) bool { return least <= n && n <= most }

func plainRead(d impl.Disk) (*plainBox, int) {
	if !modelValid(d) {
		return nil, impl.StoreBadDisk
	}
	b := &plainBox{files: map[string]string{}, good: map[string]int{}}
	for _, e := range d.Names {
		b.files[e.Name] = string(d.Nodes[e.Node].Data)
	}
	_, index := b.files["index"]
	_, cursor := b.files["cursor"]
	_, uidlist := b.files["uidlist"]
	var good bool
	switch {
	case index && cursor:
		good = b.readIndex() && b.readText() && b.readCursor()
		b.kind, b.order = impl.KindMoving, []string{"index", "cursor", b.text}
	case index:
		good = b.readIndex() && b.readText()
		b.kind, b.order = impl.KindMbox, []string{"index", b.text}
	case uidlist:
		good = b.readUidlist()
		b.kind, b.order = impl.KindMaildir, []string{"uidlist"}
	default:
		return nil, impl.StoreNone
	}
	for _, m := range b.mails {
		good = good && len(m.Body) <= impl.MaxBody
	}
	if !good {
		return nil, impl.StoreCorrupt
	}
	return b, impl.StoreOK
}

func (b *plainBox) records(name string) []string {
	log := impl.Unframe([]byte(b.files[name]))
	b.good[name] = log.Good
	var list []string
	for _, r := range log.Records {
		list = append(list, string(r))
	}
	return list
}

func (b *plainBox) readIndex() bool {
	list := b.records("index")
	if len(list) == 0 {
		return false
	}
	v := indexHead.FindStringSubmatch(list[0])
	if v == nil {
		return false
	}
	n := numbersOf(v[1:])
	if !within(n[0], 1, greatestUid) || !within(n[1], 1, greatestUid) || !within(n[2], 0, 99999) {
		return false
	}
	b.header = impl.View{Validity: uint32(n[0]), Next: uint32(n[1])}
	b.gen, b.text = n[2], fmt.Sprintf("mbox.%d", n[2])
	for _, text := range list[1:] {
		if !b.readIndexRecord(text) {
			return false
		}
	}
	return len(b.mails) <= impl.MaxMails
}

func (b *plainBox) readIndexRecord(text string) bool {
	if a := indexMail.FindStringSubmatch(text); a != nil {
		n := numbersOf(a[1:])
		for _, m := range b.mails {
			if n[0] <= int(m.Uid) {
				return false
			}
		}
		if !within(n[0], 1, greatestUid-1) || !within(n[1], 0, impl.MaxStamp) || !within(n[2], 0, impl.AllFlags) {
			return false
		}
		b.header.Next = max(b.header.Next, uint32(n[0])+1)
		m := plainMail{entry: strings.Repeat("?", min(n[3], impl.MaxFileLen+1)), bare: a[5], flags: uint32(n[2]), stamp: int64(n[1])}
		m.Mail = impl.Mail{Uid: uint32(n[0]), Stamp: int64(n[1]), Flags: uint32(n[2])}
		b.mails = append(b.mails, m)
		return true
	}
	f := indexFlags.FindStringSubmatch(text)
	if f == nil {
		return false
	}
	n := numbersOf(f[1:])
	for i := range b.mails {
		if int(b.mails[i].Uid) == n[0] && within(n[1], 0, impl.AllFlags) {
			b.mails[i].Flags, b.mails[i].flags = uint32(n[1]), uint32(n[1])
			return true
		}
	}
	return false
}

func (b *plainBox) readText() bool {
	text, there := b.files[b.text]
	rest := text
	for i, m := range b.mails {
		if len(rest) < len(m.entry) {
			return false
		}
		entry := rest[:len(m.entry)]
		rest = rest[len(m.entry):]
		spans := impl.MboxSplit([]byte(entry))
		if !spans.Ok || len(spans.List) != 1 {
			return false
		}
		body := string(spans.List[0].Body)
		if m.bare == "1" {
			if body == "" {
				return false
			}
			body = body[:len(body)-1]
		}
		b.mails[i].entry, b.mails[i].Body = entry, []byte(body)
	}
	b.good[b.text] = len(text) - len(rest)
	return there
}

func (b *plainBox) readCursor() bool {
	list := b.records("cursor")
	if len(list) == 0 || list[0] != "B" {
		return false
	}
	for _, text := range list[1:] {
		c := cursorMail.FindStringSubmatch(text)
		if c == nil {
			return false
		}
		n := numbersOf(c[1:])[0]
		if n <= int(b.header.Cursor) || n > greatestUid {
			return false
		}
		b.header.Cursor = uint32(n)
	}
	for i := range b.mails {
		m := &b.mails[i]
		if m.Uid > b.header.Cursor {
			continue
		}
		for name, body := range b.files {
			told := plainName(name)
			if !told.Ok || told.Uid != m.Uid {
				continue
			}
			if m.hasCard {
				return false
			}
			m.hasCard, m.card = true, name
			m.Mail = impl.Mail{Uid: told.Uid, Stamp: told.Stamp, Flags: told.Flags, Body: []byte(body)}
		}
		if !m.hasCard {
			return false
		}
	}
	return true
}

func (b *plainBox) readUidlist() bool {
	list := b.records("uidlist")
	if len(list) == 0 {
		return false
	}
	v := uidlistHead.FindStringSubmatch(list[0])
	if v == nil {
		return false
	}
	n := numbersOf(v[1:])
	if !within(n[0], 1, greatestUid) || !within(n[1], 1, greatestUid) {
		return false
	}
	next := n[1]
	dead := map[int]bool{}
	for _, text := range list[1:] {
		x := uidlistDead.FindStringSubmatch(text)
		if x == nil {
			return false
		}
		before := next
		next = numbersOf(x[1:2])[0]
		uids := numbersOf(strings.Fields(x[2]))
		for i, uid := range uids {
			dead[uid] = true
			if uid < 1 || uid >= next || i > 0 && uids[i-1] >= uid {
				return false
			}
		}
		if next < before || next > greatestUid {
			return false
		}
	}
	b.header = impl.View{Validity: uint32(n[0]), Next: uint32(next)}
	return b.readCards(dead)
}

func (b *plainBox) readCards(dead map[int]bool) bool {
	seen := map[uint32]bool{}
	for name, body := range b.files {
		told := plainName(name)
		if !told.Ok || dead[int(told.Uid)] {
			continue
		}
		if seen[told.Uid] || told.Uid == greatestUid {
			return false
		}
		seen[told.Uid] = true
		b.header.Next = max(b.header.Next, told.Uid+1)
		b.mails = append(b.mails, plainMail{
			Mail:    impl.Mail{Uid: told.Uid, Stamp: told.Stamp, Flags: told.Flags, Body: []byte(body)},
			hasCard: true, card: name,
		})
	}
	sort.Slice(b.mails, func(i, j int) bool { return b.mails[i].Uid < b.mails[j].Uid })
	return len(b.mails) <= impl.MaxMails
}

func plainLook(d impl.Disk) impl.View {
	b, code := plainRead(d)
	if code != impl.StoreOK {
		return impl.View{Code: code}
	}
	v := b.header
	v.Kind = b.kind
	for _, m := range b.mails {
		v.Mails = append(v.Mails, m.Mail)
	}
	return v
}

func plainMend(d impl.Disk) []impl.Op {
	b, code := plainRead(d)
	if code != impl.StoreOK {
		return nil
	}
	var ops []impl.Op
	for _, name := range b.order {
		if good := b.good[name]; good < len(b.files[name]) {
			ops = append(ops, fileOp(name+".new", b.files[name][:good])...)
			ops = append(ops, rename(name+".new", name), dir())
			delete(b.files, name+".new")
		}
	}
	for _, name := range b.order {
		delete(b.files, name)
	}
	for _, m := range b.mails {
		delete(b.files, m.card)
	}
	var left []string
	for name := range b.files {
		left = append(left, name)
	}
	sort.Strings(left)
	for _, name := range left {
		ops = append(ops, remove(name))
	}
	if len(left) > 0 {
		ops = append(ops, dir())
	}
	return ops
}

// plainCode is why a request is refused, space apart.
func plainCode(v impl.View, r impl.Req) int {
	has := map[uint32]bool{}
	for _, m := range v.Mails {
		has[m.Uid] = true
	}
	high := r.Flags >= 1<<31
	switch {
	case v.Code != impl.StoreOK:
		return v.Code
	case r.Kind < 1 || r.Kind > 4,
		r.Kind == impl.ReqDeliver && (len(r.Body) > 8000 || r.Stamp < 0 || r.Stamp > 1000000000000 || high),
		r.Kind == impl.ReqFlags && high,
		r.Kind == impl.ReqExpunge && len(r.Uids) == 0:
		return impl.StoreBadReq
	case r.Kind == impl.ReqFlags && !has[r.Uid]:
		return impl.StoreNoMail
	case r.Kind == impl.ReqDeliver && (v.Next == greatestUid || len(v.Mails) == 100):
		return impl.StoreEnd
	case r.Kind != impl.ReqExpunge:
		return impl.StoreOK
	}
	code := impl.StoreOK
	for i, uid := range r.Uids {
		if i > 0 && r.Uids[i-1] >= uid {
			return impl.StoreBadReq
		}
		if !has[uid] {
			code = impl.StoreNoMail
		}
	}
	return code
}

// plainOwn are a request's own operations, on a disk on which there is nothing
// to mend.
func plainOwn(d impl.Disk, r impl.Req) []impl.Op {
	b, _ := plainRead(d)
	switch {
	case r.Kind == impl.ReqDeliver && b.kind == impl.KindMaildir:
		return plainCard(b.header.Next, r.Stamp, r.Flags, string(r.Body))
	case r.Kind == impl.ReqDeliver:
		entry, bare := "From mail\n"+plainQuote(string(r.Body))+"\n", 0
		if ended(string(r.Body)) != string(r.Body) {
			entry, bare = entry+"\n", 1
		}
		line := fmt.Sprintf("A %d %d %d %d %d", b.header.Next, r.Stamp, r.Flags, len(entry), bare)
		return []impl.Op{put(b.text, entry), syncing(b.text), put("index", logOf(line)), syncing("index")}
	case r.Kind == impl.ReqFlags:
		return b.plainFlags(r)
	case r.Kind == impl.ReqExpunge:
		return b.plainExpunge(r)
	}
	return b.plainMove()
}

func plainCard(uid uint32, stamp int64, flags uint32, body string) []impl.Op {
	tmp := fmt.Sprintf("tmp/%d", uid)
	return append(fileOp(tmp, body), rename(tmp, impl.MailName(uid, stamp, flags)), dir())
}

func (b *plainBox) plainFlags(r impl.Req) []impl.Op {
	for _, m := range b.mails {
		switch {
		case m.Uid != r.Uid || m.Flags == r.Flags:
		case m.hasCard:
			return []impl.Op{rename(m.card, impl.MailName(m.Uid, m.Stamp, r.Flags)), dir()}
		default:
			return []impl.Op{put("index", logOf(fmt.Sprintf("F %d %d", r.Uid, r.Flags))), syncing("index")}
		}
	}
	return nil
}

func (b *plainBox) plainExpunge(r impl.Req) []impl.Op {
	goes := map[uint32]bool{}
	buried := fmt.Sprintf("X %d", b.header.Next)
	for _, uid := range r.Uids {
		goes[uid] = true
		buried += fmt.Sprintf(" %d", uid)
	}
	gen := (b.gen + 1) % 100000
	text, index := "", []string{fmt.Sprintf("V %d %d %d", b.header.Validity, b.header.Next, gen)}
	var cards []string
	for _, m := range b.mails {
		if goes[m.Uid] && m.hasCard {
			cards = append(cards, m.card)
		}
		if !goes[m.Uid] {
			text += m.entry
			index = append(index, fmt.Sprintf("A %d %d %d %d %s", m.Uid, m.stamp, m.flags, len(m.entry), m.bare))
		}
	}
	sort.Strings(cards)
	var ops []impl.Op
	if b.kind == impl.KindMaildir {
		ops = []impl.Op{put("uidlist", logOf(buried)), syncing("uidlist")}
	} else {
		ops = append(fileOp(fmt.Sprintf("mbox.%d", gen), text), fileOp("index.new", logOf(index...))...)
		ops = append(ops, dir(), rename("index.new", "index"), dir(), remove(b.text))
	}
	for _, name := range cards {
		ops = append(ops, remove(name))
	}
	return append(ops, dir())
}

func (b *plainBox) plainMove() []impl.Op {
	switch b.kind {
	case impl.KindMaildir:
		return nil
	case impl.KindMbox:
		return append(fileOp("cursor.new", logOf("B")), rename("cursor.new", "cursor"), dir())
	}
	for _, m := range b.mails {
		if !m.hasCard {
			ops := plainCard(m.Uid, m.Stamp, m.Flags, string(m.Body))
			return append(ops, put("cursor", logOf(fmt.Sprintf("C %d", m.Uid))), syncing("cursor"))
		}
	}
	ops := fileOp("uidlist.new", logOf(fmt.Sprintf("V %d %d", b.header.Validity, b.header.Next)))
	return append(ops, rename("uidlist.new", "uidlist"), dir(), remove("index"), dir(), remove("cursor"), remove(b.text), dir())
}
