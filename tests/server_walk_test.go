package tests

import (
	"fmt"
	"math/rand"
	"strings"
	"testing"

	"loop.example/s02349/impl"
)

func anyPlaceText(r *rand.Rand) string {
	return []string{"1", "2", "3", "*", fmt.Sprint(1 + r.Intn(12)), "4294967295"}[r.Intn(6)]
}

func anySetText(r *rand.Rand) string {
	var parts []string
	for range 1 + r.Intn(3) {
		part := anyPlaceText(r)
		if r.Intn(2) == 0 {
			part += ":" + anyPlaceText(r)
		}
		parts = append(parts, part)
	}
	return strings.Join(parts, ",")
}

func anyFlagText(r *rand.Rand) string {
	var names []string
	for range r.Intn(4) {
		names = append(names, []string{`\Deleted`, `\deleted`, `\Seen`, `\Answered`, `\FLAGGED`, `\Draft`, "a", "q", "z"}[r.Intn(9)])
	}
	return "(" + strings.Join(names, " ") + ")"
}

func anyItemText(r *rand.Rand) string {
	items := []string{"UID", "FLAGS", "RFC822.SIZE", "BODY[]", "flags", "body[]"}
	if r.Intn(2) == 0 {
		return items[r.Intn(len(items))]
	}
	var list []string
	for range 1 + r.Intn(4) {
		list = append(list, items[r.Intn(len(items))])
	}
	return "(" + strings.Join(list, " ") + ")"
}

func anyMailText(r *rand.Rand) string {
	var b strings.Builder
	for range r.Intn(7) {
		b.WriteString([]string{"\n", ".", "..\n", "From ", ">From x\n", "x", "\r\n", "\x00", "{3}\r\n", ".\r\n"}[r.Intn(10)])
	}
	return b.String()
}

func anyImapText(r *rand.Rand) string {
	tag := []string{"a", "B2", "tag", "12345678901234567890"}[r.Intn(4)]
	uid := []string{"", "", "UID ", "uid "}[r.Intn(4)]
	switch r.Intn(12) {
	case 0, 1, 2:
		return tag + " " + uid + "FETCH " + anySetText(r) + " " + anyItemText(r) + "\r\n"
	case 3, 4, 5:
		return tag + " " + uid + "STORE " + anySetText(r) + " " + []string{"", "+", "-", "+"}[r.Intn(4)] + "FLAGS " + anyFlagText(r) + "\r\n"
	case 6, 7:
		body := anyMailText(r)
		flags := []string{"", "", anyFlagText(r) + " "}[r.Intn(3)]
		end := []string{"\r\n", "\r\n", "\r\n", "\r\n", "x\r\n"}[r.Intn(5)]
		return fmt.Sprintf("%s APPEND %s{%d}\r\n%s%s", tag, flags, len(body), body, end)
	case 8:
		return tag + " EXPUNGE\r\n"
	case 9:
		return anyLine(r, []string{"a NOOP", "b FETCH 1:* FLAGS", "c STORE 1 +FLAGS (a)", "d EXPUNGE", "e UID FETCH * UID"}) + "\r\n"
	case 10:
		if r.Intn(2) == 0 {
			return []string{"a LOGOUT\r\n", strings.Repeat("x", 301) + "\r\n", "a APPEND {8001}\r\n", "a APPEND {1}\r\n"}[r.Intn(4)]
		}
	}
	return tag + " NOOP\r\n"
}

func anyPopText(r *rand.Rand) string {
	n := []string{"1", "2", "3", fmt.Sprint(r.Intn(12))}[r.Intn(4)]
	switch r.Intn(9) {
	case 0:
		return "STAT\r\n"
	case 1:
		return []string{"LIST\r\n", "UIDL\r\n"}[r.Intn(2)]
	case 2:
		return []string{"LIST ", "uidl "}[r.Intn(2)] + n + "\r\n"
	case 3, 4:
		return "RETR " + n + "\r\n"
	case 5, 6:
		return "DELE " + n + "\r\n"
	case 7:
		return []string{"RSET\r\n", "NOOP\r\n", "QUIT\r\n", "QUIT\r\n"}[r.Intn(4)]
	}
	return []string{anyLine(r, []string{"STAT", "LIST 1", "DELE 1", "RETR 2"}) + "\r\n", strings.Repeat("y", 301) + "\r\n"}[r.Intn(2)]
}

// anyEvents speak both protocols on a few connections. What a connection is
// sent comes in pieces that end anywhere.
func anyEvents(r *rand.Rand, count int) []impl.Event {
	var list []impl.Event
	var waiting [3]string
	for len(list) < count {
		conn := r.Intn(3)
		switch r.Intn(14) {
		case 0:
			list = append(list, popOn(conn))
		case 1:
			list = append(list, imapOn(conn))
		case 2:
			if r.Intn(4) == 0 {
				list = append(list, closeOn(conn))
			}
		case 3:
			list = append(list, tick(r.Intn(1000)))
		case 4, 5:
			list = append(list, mailed(anyMailText(r), uint32(r.Intn(64))))
		default:
			for range 1 + r.Intn(3) {
				if conn == 0 {
					waiting[conn] += anyPopText(r)
				} else {
					waiting[conn] += anyImapText(r)
				}
			}
			at := r.Intn(len(waiting[conn]) + 1)
			if r.Intn(2) == 0 {
				at = len(waiting[conn])
			}
			list = append(list, raw(conn, waiting[conn][:at]))
			waiting[conn] = waiting[conn][at:]
		}
	}
	return list
}

// withMoves puts steps of the move at places by chance, many or few.
func withMoves(r *rand.Rand, events []impl.Event) []impl.Event {
	var list []impl.Event
	rare := 2 + r.Intn(30)
	for i, e := range events {
		for r.Intn(rare) == 0 && len(list)+len(events)-i < impl.MaxEvents {
			list = append(list, moved())
		}
		list = append(list, e)
	}
	return list
}

// wantPlain holds a run against the second telling, to the last byte that was
// written and to the mailbox that is left.
func wantPlain(t *testing.T, seed int64, s impl.Script) impl.Outcome {
	t.Helper()
	got, want := impl.Run(s), plainRun(s)
	if got.Code != 0 || got.Spaces != 0 || len(got.Outs) != impl.MaxConns {
		t.Fatalf("seed %d kind %d: code %d spaces %d outs %d", seed, s.Kind, got.Code, got.Spaces, len(got.Outs))
	}
	for conn, out := range got.Outs {
		if string(out) != want.conns[conn].out {
			t.Fatalf("seed %d kind %d connection %d:\n%q\nwant\n%q", seed, s.Kind, conn, out, want.conns[conn].out)
		}
	}
	if now := tellMails(impl.Look(got.Disk)); now != tellMails(want.box) {
		t.Fatalf("seed %d kind %d:\n%s\nwant\n%s", seed, s.Kind, now, tellMails(want.box))
	}
	return got
}

// Promises 14, 15 and 16: many scripts, in three runs, held against a list.
func TestScriptsInThreeForms(t *testing.T) {
	kinds, words := map[int]int{}, map[string]int{}
	for seed := range int64(300) {
		r := rand.New(rand.NewSource(seed))
		events := anyEvents(r, 20+r.Intn(100))
		for _, s := range []impl.Script{script(impl.KindMbox, events...), script(impl.KindMaildir, events...), script(impl.KindMbox, withMoves(r, events)...)} {
			got := wantPlain(t, seed, s)
			kinds[impl.Look(got.Disk).Kind]++
			for _, word := range []string{"EXPUNGE", "EXISTS", "FETCH (UID", "FETCH (FLAGS", "BODY[]", "BAD", "* BAD", "-ERR bad", "-ERR none", "+OK bye", "BYE\r\n", "\r\n..", " NO\r\n"} {
				for _, out := range got.Outs {
					words[word] += strings.Count(string(out), word)
				}
			}
		}
	}
	for _, word := range []string{"EXPUNGE", "EXISTS", "FETCH (UID", "FETCH (FLAGS", "BODY[]", "BAD", "* BAD", "-ERR bad", "-ERR none", "+OK bye", "BYE\r\n", "\r\n.."} {
		if words[word] < 100 {
			t.Errorf("the scripts ask too little of %q: %v", word, words)
		}
	}
	if kinds[impl.KindMbox] < 200 || kinds[impl.KindMaildir] < 300 || kinds[impl.KindMoving] < 20 {
		t.Error("the scripts ask too little:", kinds)
	}
}

// The same in full mailboxes, with deliveries that are refused.
func TestScriptsInFullMailboxes(t *testing.T) {
	refused := 0
	for seed := range int64(8) {
		r := rand.New(rand.NewSource(seed))
		var events []impl.Event
		for i := range impl.MaxMails - r.Intn(5) {
			events = append(events, mailed(strings.Repeat("x", i%7), uint32(i)))
		}
		events = append(events, anyEvents(r, 80)...)
		for _, s := range []impl.Script{script(impl.KindMbox, events...), script(impl.KindMaildir, events...), script(impl.KindMbox, withMoves(r, events)...)} {
			for _, out := range wantPlain(t, seed, s).Outs {
				refused += strings.Count(string(out), " NO\r\n")
			}
		}
	}
	if refused < 10 {
		t.Error("only", refused, "refused")
	}
}
