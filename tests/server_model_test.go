package tests

import (
	"fmt"
	"sort"
	"strings"

	"loop.example/s02349/impl"
)

// A second telling of Chapter 7: the mailbox is a list, and there is no disk.

type plainServer struct {
	box   impl.View
	clock int64
	conns [impl.MaxConns]plainConn
}

type plainConn struct {
	talk   string // "pop", "imap", or "" while it is closed
	rest   string
	out    string
	uids   []uint32
	known  map[uint32]uint32
	marked map[uint32]bool
}

func plainRun(s impl.Script) *plainServer {
	p := &plainServer{box: impl.View{Validity: s.Validity, Next: 1}}
	for _, e := range s.Events {
		c := &p.conns[e.Conn]
		switch e.Kind {
		case impl.EvPop, impl.EvImap:
			if c.talk == "" {
				p.begin(c, e.Kind)
			}
		case impl.EvBytes:
			if c.talk != "" {
				p.bytes(c, string(e.Text))
			}
		case impl.EvClose:
			c.talk, c.rest = "", ""
		case impl.EvTick:
			p.clock += int64(e.N)
		case impl.EvDeliver:
			p.ask(impl.Req{Kind: impl.ReqDeliver, Body: e.Text, Stamp: p.clock, Flags: e.Flags})
		}
	}
	return p
}

func (p *plainServer) ask(r impl.Req) bool {
	if plainCode(p.box, r) != impl.StoreOK {
		return false
	}
	p.box = plainDo(p.box, r)
	return true
}

func (p *plainServer) find(uid uint32) (impl.Mail, bool) {
	for _, m := range p.box.Mails {
		if m.Uid == uid {
			return m, true
		}
	}
	return impl.Mail{}, false
}

func (p *plainServer) begin(c *plainConn, kind int) {
	c.talk, c.rest, c.uids = "pop", "", nil
	c.known, c.marked = map[uint32]uint32{}, map[uint32]bool{}
	for _, m := range p.box.Mails {
		c.uids = append(c.uids, m.Uid)
		c.known[m.Uid] = m.Flags
	}
	if kind == impl.EvPop {
		c.out += "+OK pop\r\n"
		return
	}
	c.talk = "imap"
	c.out += fmt.Sprintf("* OK imap\r\n* %d EXISTS\r\n* OK [UIDVALIDITY %d]\r\n* OK [UIDNEXT %d]\r\n", len(c.uids), p.box.Validity, p.box.Next)
}

func (p *plainServer) bytes(c *plainConn, text string) {
	units := plainCut(c.talk == "imap", c.rest+text)
	for _, u := range units.List {
		if c.talk == "imap" {
			p.imap(c, plainImap(u))
		} else {
			p.pop(c, plainPop(string(u.Line)))
		}
		if len(c.out) > 60000 {
			c.talk = ""
		}
		if c.talk == "" {
			return
		}
	}
	c.rest = string(units.Rest)
	if len(c.rest) > 9000 {
		c.out += map[string]string{"pop": "-ERR long\r\n", "imap": "* BYE long\r\n"}[c.talk]
		c.talk = ""
	}
}

func (p *plainServer) pop(c *plainConn, cmd impl.Cmd) {
	good := map[int]impl.Mail{}
	var places []int
	size := 0
	for i, uid := range c.uids {
		if m, there := p.find(uid); there && !c.marked[uid] {
			good[i+1] = m
			places = append(places, i+1)
			size += len(m.Body)
		}
	}
	mail, is := good[int(cmd.N)]
	if cmd.N != 0 && !is {
		c.out += "-ERR none\r\n"
		return
	}
	switch cmd.Kind {
	case impl.CmdBad:
		c.out += "-ERR bad\r\n"
	case impl.CmdStat:
		c.out += fmt.Sprintf("+OK %d %d\r\n", len(places), size)
	case impl.CmdList, impl.CmdUidl:
		what := func(m impl.Mail) int { return len(m.Body) }
		if cmd.Kind == impl.CmdUidl {
			what = func(m impl.Mail) int { return int(m.Uid) }
		}
		if cmd.N != 0 {
			c.out += fmt.Sprintf("+OK %d %d\r\n", cmd.N, what(mail))
			return
		}
		c.out += "+OK\r\n"
		for _, n := range places {
			c.out += fmt.Sprintf("%d %d\r\n", n, what(good[n]))
		}
		c.out += ".\r\n"
	case impl.CmdRetr:
		c.out += fmt.Sprintf("+OK %d\r\n", len(mail.Body)) + plainLines(string(mail.Body)) + ".\r\n"
	case impl.CmdDele:
		c.marked[mail.Uid] = true
		c.out += "+OK\r\n"
	case impl.CmdRset:
		c.marked = map[uint32]bool{}
		c.out += "+OK\r\n"
	case impl.CmdNoop:
		c.out += "+OK\r\n"
	case impl.CmdQuit:
		p.quit(c)
	}
}

func (p *plainServer) quit(c *plainConn) {
	var uids []uint32
	for uid := range c.marked {
		if _, there := p.find(uid); there {
			uids = append(uids, uid)
		}
	}
	sort.Slice(uids, func(i, j int) bool { return uids[i] < uids[j] })
	if len(uids) > 0 && !p.ask(impl.Req{Kind: impl.ReqExpunge, Uids: uids}) {
		c.out += "-ERR space\r\n"
		return
	}
	c.out += "+OK bye\r\n"
	c.talk = ""
}

// plainLines are a body's as they are written, the last without bytes left
// out.
func plainLines(body string) string {
	lines := strings.Split(body, "\n")
	if lines[len(lines)-1] == "" {
		lines = lines[:len(lines)-1]
	}
	text := ""
	for _, line := range lines {
		if strings.HasPrefix(line, ".") {
			text += "."
		}
		text += line + "\r\n"
	}
	return text
}

func (p *plainServer) catchUp(c *plainConn) {
	for i := 0; i < len(c.uids); {
		if _, there := p.find(c.uids[i]); there {
			i++
			continue
		}
		c.out += fmt.Sprintf("* %d EXPUNGE\r\n", i+1)
		c.uids = append(c.uids[:i:i], c.uids[i+1:]...)
	}
	for i, uid := range c.uids {
		if m, _ := p.find(uid); m.Flags != c.known[uid] {
			c.out += fmt.Sprintf("* %d FETCH (FLAGS %s)\r\n", i+1, plainFlagList(m.Flags))
			c.known[uid] = m.Flags
		}
	}
	some := false
	for _, m := range p.box.Mails {
		listed := false
		for _, uid := range c.uids {
			listed = listed || uid == m.Uid
		}
		if !listed {
			some = true
			c.uids = append(c.uids, m.Uid)
			c.known[m.Uid] = m.Flags
		}
	}
	if some {
		c.out += fmt.Sprintf("* %d EXISTS\r\n", len(c.uids))
	}
}

func plainFlagList(flags uint32) string {
	var set []string
	for i, name := range strings.Fields(`\Answered \Flagged \Deleted \Seen \Draft a b c d e f g h i j k l m n o p q r s t u v w x y z`) {
		if flags>>i&1 == 1 {
			set = append(set, name)
		}
	}
	return "(" + strings.Join(set, " ") + ")"
}

// places are those of a command, counted from 1.
func (p *plainServer) places(c *plainConn, cmd impl.Cmd) []int {
	var list []int
	for i, uid := range c.uids {
		n, last := i+1, len(c.uids)
		if cmd.Uid {
			n, last = int(uid), int(c.uids[len(c.uids)-1])
		}
		in := false
		for _, pair := range cmd.Set {
			from, to := int(pair.From), int(pair.To)
			if from == 0 {
				from = last
			}
			if to == 0 {
				to = last
			}
			in = in || within(n, min(from, to), max(from, to))
		}
		if _, there := p.find(uid); there && in {
			list = append(list, i+1)
		}
	}
	return list
}

func (p *plainServer) imap(c *plainConn, cmd impl.Cmd) {
	word := " OK\r\n"
	switch cmd.Kind {
	case impl.CmdBad:
		word = " BAD\r\n"
	case impl.CmdNoop:
		p.catchUp(c)
	case impl.CmdFetch:
		for _, n := range p.places(c, cmd) {
			m, _ := p.find(c.uids[n-1])
			c.out += fmt.Sprintf("* %d FETCH (%s)\r\n", n, c.items(cmd, m))
		}
	case impl.CmdStore:
		for _, n := range p.places(c, cmd) {
			m, _ := p.find(c.uids[n-1])
			m.Flags = map[int]uint32{impl.ModeSet: cmd.Flags, impl.ModeAdd: m.Flags | cmd.Flags, impl.ModeDrop: m.Flags &^ cmd.Flags}[cmd.Mode]
			p.ask(impl.Req{Kind: impl.ReqFlags, Uid: m.Uid, Flags: m.Flags})
			c.out += fmt.Sprintf("* %d FETCH (%s)\r\n", n, c.items(impl.Cmd{Uid: cmd.Uid, Items: impl.ItemFlags}, m))
		}
	case impl.CmdExpunge:
		var uids []uint32
		for _, m := range p.box.Mails {
			if m.Flags&impl.FlagDeleted != 0 {
				uids = append(uids, m.Uid)
			}
		}
		p.ask(impl.Req{Kind: impl.ReqExpunge, Uids: uids})
		p.catchUp(c)
	case impl.CmdAppend:
		if p.ask(impl.Req{Kind: impl.ReqDeliver, Body: cmd.Body, Stamp: p.clock, Flags: cmd.Flags}) {
			p.catchUp(c)
		} else {
			word = " NO\r\n"
		}
	case impl.CmdQuit:
		c.out += "* BYE\r\n"
		c.talk = ""
	}
	c.out += cmd.Tag + word
}

func (c *plainConn) items(cmd impl.Cmd, m impl.Mail) string {
	var list []string
	if cmd.Uid || cmd.Items&1 != 0 {
		list = append(list, fmt.Sprintf("UID %d", m.Uid))
	}
	if cmd.Items&2 != 0 {
		list = append(list, "FLAGS "+plainFlagList(m.Flags))
		c.known[m.Uid] = m.Flags
	}
	if cmd.Items&4 != 0 {
		list = append(list, fmt.Sprintf("RFC822.SIZE %d", len(m.Body)))
	}
	if cmd.Items&8 != 0 {
		list = append(list, fmt.Sprintf("BODY[] {%d}\r\n%s", len(m.Body), m.Body))
	}
	return strings.Join(list, " ")
}
