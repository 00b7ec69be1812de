package tests

import (
	"fmt"
	"strings"
	"testing"

	"loop.example/s02349/impl"
)

func popOn(conn int) impl.Event  { return impl.Event{Kind: impl.EvPop, Conn: conn} }
func imapOn(conn int) impl.Event { return impl.Event{Kind: impl.EvImap, Conn: conn} }
func closeOn(conn int) impl.Event {
	return impl.Event{Kind: impl.EvClose, Conn: conn}
}

// sent has lines, with their ends.
func sent(conn int, lines ...string) impl.Event { return raw(conn, replies(lines...)) }

func raw(conn int, text string) impl.Event {
	return impl.Event{Kind: impl.EvBytes, Conn: conn, Text: []byte(text)}
}

func mailed(body string, flags uint32) impl.Event {
	return impl.Event{Kind: impl.EvDeliver, Text: []byte(body), Flags: flags}
}

func tick(n int) impl.Event { return impl.Event{Kind: impl.EvTick, N: n} }

func moved() impl.Event { return impl.Event{Kind: impl.EvMove} }

func script(kind int, events ...impl.Event) impl.Script {
	return impl.Script{Kind: kind, Validity: 7, Quota: impl.MaxQuota, Events: events}
}

// moving puts steps of the move behind all events but the first so many.
func moving(events []impl.Event, first int) []impl.Event {
	var list []impl.Event
	for i, e := range events {
		list = append(list, e)
		if i >= first && len(list)+len(events)-i-1 < impl.MaxEvents {
			list = append(list, moved())
		}
	}
	return list
}

// formsOf is a script in both forms, and with steps of the move from early and
// from late on.
func formsOf(events []impl.Event) []impl.Script {
	return []impl.Script{
		script(impl.KindMbox, events...),
		script(impl.KindMaildir, events...),
		script(impl.KindMbox, moving(events, 0)...),
		script(impl.KindMbox, moving(events, len(events)/2)...),
	}
}

// wantOuts plays events in all forms and asks for all that was written, nothing
// on the connections that want does not have.
func wantOuts(t *testing.T, events []impl.Event, want map[int]string) {
	t.Helper()
	for i, s := range formsOf(events) {
		got := impl.Run(s)
		if got.Code != 0 || got.Spaces != 0 || len(got.Outs) != impl.MaxConns {
			t.Fatalf("form %d: code %d spaces %d outs %d", i, got.Code, got.Spaces, len(got.Outs))
		}
		for conn, out := range got.Outs {
			if string(out) != want[conn] {
				t.Errorf("form %d connection %d:\n%.3000q\nwant\n%.3000q", i, conn, out, want[conn])
			}
		}
	}
}

// wantSameDisk asks that two lists of events leave the same disk.
func wantSameDisk(t *testing.T, a, b []impl.Event) {
	t.Helper()
	for _, kind := range []int{impl.KindMbox, impl.KindMaildir} {
		got, want := impl.Run(script(kind, a...)), impl.Run(script(kind, b...))
		if got.Code != 0 || tell(got.Disk) != tell(want.Disk) {
			t.Errorf("kind %d code %d:\n%.2000s\nwant\n%.2000s", kind, got.Code, tell(got.Disk), tell(want.Disk))
		}
	}
}

func greeting(count, next int) string {
	return fmt.Sprintf("* OK imap\r\n* %d EXISTS\r\n* OK [UIDVALIDITY 7]\r\n* OK [UIDNEXT %d]\r\n", count, next)
}

// replies are lines with their ends.
func replies(lines ...string) string { return strings.Join(append(lines, ""), "\r\n") }

func numeral(n int) string { return fmt.Sprint(n) }
