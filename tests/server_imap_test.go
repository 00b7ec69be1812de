package tests

import (
	"fmt"
	"strings"
	"testing"

	"loop.example/s02349/impl"
)

func TestImapGreetings(t *testing.T) {
	wantOuts(t, []impl.Event{imapOn(0), mailed("a", 0), mailed("b", 0), imapOn(1)}, map[int]string{0: greeting(0, 1), 1: greeting(2, 3)})
	events := append(threeLetters(), imapOn(0), sent(0, "a EXPUNGE"), imapOn(1))
	wantOuts(t, events, map[int]string{0: greeting(3, 4) + replies("* 2 EXPUNGE", "a OK"), 1: greeting(2, 4)})
	s := script(impl.KindMaildir, imapOn(0))
	s.Validity = 4294967295
	if got := string(impl.Run(s).Outs[0]); got != "* OK imap\r\n* 0 EXISTS\r\n* OK [UIDVALIDITY 4294967295]\r\n* OK [UIDNEXT 1]\r\n" {
		t.Errorf("%q", got)
	}
}

// fiveLetters has the uids 2, 4 and 5 at the places 1 to 3.
func fiveLetters() []impl.Event {
	return []impl.Event{
		mailed("1", 4), mailed("two", impl.FlagSeen), mailed("3", 4), mailed("", 0), mailed("From 5\n", impl.FlagAnswered|1<<30),
		imapOn(7), sent(7, "z EXPUNGE", "z LOGOUT"), imapOn(0),
	}
}

const fivesExpunge = "* 1 EXPUNGE\r\n* 2 EXPUNGE\r\nz OK\r\n* BYE\r\nz OK\r\n"

func TestImapFetches(t *testing.T) {
	for _, row := range []struct{ command, want string }{
		{"FETCH 1 UID", "* 1 FETCH (UID 2)"},
		{"FETCH 2 FLAGS", "* 2 FETCH (FLAGS ())"},
		{"FETCH 3 FLAGS", `* 3 FETCH (FLAGS (\Answered z))`},
		{"FETCH 1 RFC822.SIZE", "* 1 FETCH (RFC822.SIZE 3)"},
		{"FETCH 1 BODY[]", "* 1 FETCH (BODY[] {3}|two)"},
		{"FETCH 2 BODY[]", "* 2 FETCH (BODY[] {0}|)"},
		{"FETCH 3 BODY[]", "* 3 FETCH (BODY[] {7}|From 5\n)"},
		{"FETCH 3 (BODY[] FLAGS)", "* 3 FETCH (FLAGS (\\Answered z) BODY[] {7}|From 5\n)"},
		{"FETCH 1 (BODY[] RFC822.SIZE FLAGS UID)", `* 1 FETCH (UID 2 FLAGS (\Seen) RFC822.SIZE 3 BODY[] {3}|two)`},
		{"FETCH 1:* UID", "* 1 FETCH (UID 2)|* 2 FETCH (UID 4)|* 3 FETCH (UID 5)"},
		{"FETCH *:1 UID", "* 1 FETCH (UID 2)|* 2 FETCH (UID 4)|* 3 FETCH (UID 5)"},
		{"FETCH 3,1 UID", "* 1 FETCH (UID 2)|* 3 FETCH (UID 5)"},
		{"FETCH 3,3,* UID", "* 3 FETCH (UID 5)"},
		{"FETCH 3:2 UID", "* 2 FETCH (UID 4)|* 3 FETCH (UID 5)"},
		{"FETCH 2:9 UID", "* 2 FETCH (UID 4)|* 3 FETCH (UID 5)"},
		{"FETCH 9:* UID", "* 3 FETCH (UID 5)"},
		{"FETCH 4 UID", ""},
		{"FETCH 4:9,4294967295 UID", ""},
		{"UID FETCH 1 FLAGS", ""},
		{"UID FETCH 2 FLAGS", `* 1 FETCH (UID 2 FLAGS (\Seen))`},
		{"UID FETCH 2 UID", "* 1 FETCH (UID 2)"},
		{"UID FETCH 3 UID", ""},
		{"UID FETCH 3:4 UID", "* 2 FETCH (UID 4)"},
		{"UID FETCH * RFC822.SIZE", "* 3 FETCH (UID 5 RFC822.SIZE 7)"},
		{"UID FETCH 4:* RFC822.SIZE", "* 2 FETCH (UID 4 RFC822.SIZE 0)|* 3 FETCH (UID 5 RFC822.SIZE 7)"},
		{"UID FETCH 9:* UID", "* 3 FETCH (UID 5)"},
		{"UID FETCH 1:4294967295 BODY[]", "* 1 FETCH (UID 2 BODY[] {3}|two)|* 2 FETCH (UID 4 BODY[] {0}|)|* 3 FETCH (UID 5 BODY[] {7}|From 5\n)"},
	} {
		want := greeting(3, 6)
		if row.want != "" {
			want += strings.ReplaceAll(row.want, "|", "\r\n") + "\r\n"
		}
		wantOuts(t, append(fiveLetters(), sent(0, "a "+row.command)), map[int]string{0: want + replies("a OK"), 7: greeting(5, 6) + fivesExpunge})
	}
}

func TestImapStores(t *testing.T) {
	for _, row := range []struct{ command, want string }{
		{`STORE 1 FLAGS (\Draft a)`, `* 1 FETCH (FLAGS (\Draft a))`},
		{`STORE 1 FLAGS ()`, `* 1 FETCH (FLAGS ())`},
		{`STORE 1 FLAGS (\Seen)`, `* 1 FETCH (FLAGS (\Seen))`},
		{`STORE 1 +FLAGS (\Seen)`, `* 1 FETCH (FLAGS (\Seen))`},
		{`STORE 1 +FLAGS (a \Deleted)`, `* 1 FETCH (FLAGS (\Deleted \Seen a))`},
		{`STORE 3 -FLAGS (z)`, `* 3 FETCH (FLAGS (\Answered))`},
		{`STORE 3 -FLAGS (a)`, `* 3 FETCH (FLAGS (\Answered z))`},
		{`STORE 3 +FLAGS ()`, `* 3 FETCH (FLAGS (\Answered z))`},
		{`STORE 3 -FLAGS ()`, `* 3 FETCH (FLAGS (\Answered z))`},
		{`STORE 2:* +FLAGS (\Seen)`, `* 2 FETCH (FLAGS (\Seen))|* 3 FETCH (FLAGS (\Answered \Seen z))`},
		{`STORE 9 +FLAGS (\Seen)`, ``},
		{`UID STORE 4:5 FLAGS (b)`, `* 2 FETCH (UID 4 FLAGS (b))|* 3 FETCH (UID 5 FLAGS (b))`},
		{`UID STORE 1,3 FLAGS (b)`, ``},
		{`UID STORE * -FLAGS (\Answered)`, `* 3 FETCH (UID 5 FLAGS (z))`},
	} {
		want := greeting(3, 6)
		if row.want != "" {
			want += strings.ReplaceAll(row.want, "|", "\r\n") + "\r\n"
		}
		// What was told by the command itself is not told again.
		wantOuts(t, append(fiveLetters(), sent(0, "a "+row.command, "b NOOP")), map[int]string{0: want + replies("a OK", "b OK"), 7: greeting(5, 6) + fivesExpunge})
	}
}

// The places of a set are those of the list as it is known, and '*' its end,
// even if that mail is gone.
func TestImapPlacesOfMailsThatAreGone(t *testing.T) {
	events := append(threeLetters(), imapOn(0), popOn(1), sent(1, "DELE 1", "DELE 3", "QUIT"), mailed("new", 0),
		sent(0, "a FETCH 1:* UID", "b FETCH * UID", "c UID FETCH 3:* UID", "d UID FETCH 4 UID", "e STORE 1,3 FLAGS (a)", "f STORE 2:3 +FLAGS (a)", "g FETCH 1:3 UID"),
		sent(0, "h NOOP", "i FETCH 1:* (UID FLAGS)", "j UID FETCH * UID"))
	wantOuts(t, events, map[int]string{
		0: greeting(3, 4) + replies("* 2 FETCH (UID 2)", "a OK", "b OK", "c OK", "d OK", "e OK", `* 2 FETCH (FLAGS (\Deleted a))`, "f OK", "* 2 FETCH (UID 2)", "g OK",
			"* 1 EXPUNGE", "* 2 EXPUNGE", "* 2 EXISTS", "h OK", `* 1 FETCH (UID 2 FLAGS (\Deleted a))`, "* 2 FETCH (UID 4 FLAGS ())", "i OK", "* 2 FETCH (UID 4)", "j OK"),
		1: popGreeting + replies("+OK", "+OK", "+OK bye"),
	})
}

// Which commands catch up, and in what order they tell it.
func TestImapCatchesUp(t *testing.T) {
	change := []impl.Event{
		mailed("1", 0), mailed("2", 0), mailed("3", 0), mailed("4", 0), mailed("5", 0), imapOn(0), imapOn(1),
		sent(1, `x STORE 2,3,5 +FLAGS (\Deleted)`, "x EXPUNGE", `x STORE 2 FLAGS (\Seen)`), mailed("6", 2), mailed("7", 0),
	}
	other := greeting(5, 6) + replies(`* 2 FETCH (FLAGS (\Deleted))`, `* 3 FETCH (FLAGS (\Deleted))`, `* 5 FETCH (FLAGS (\Deleted))`, "x OK", "* 2 EXPUNGE", "* 2 EXPUNGE", "* 3 EXPUNGE", "x OK", `* 2 FETCH (FLAGS (\Seen))`, "x OK")
	news := replies("* 2 EXPUNGE", "* 2 EXPUNGE", "* 3 EXPUNGE", `* 2 FETCH (FLAGS (\Seen))`)
	for command, want := range map[string]string{
		"a NOOP":                    news + replies("* 4 EXISTS", "a OK"),
		"a EXPUNGE":                 news + replies("* 4 EXISTS", "a OK"),
		"a APPEND {1}\r\n8":         news + replies("* 5 EXISTS", "a OK"),
		"a FETCH 9 UID":             replies("a OK"),
		"a STORE 9 FLAGS ()":        replies("a OK"),
		"a FETCH 1 FLAGS":           replies("* 1 FETCH (FLAGS ())", "a OK"),
		"a BAD":                     replies("a BAD"),
		"a LOGOUT":                  replies("* BYE", "a OK"),
		"a UID FETCH 4 BODY[]":      replies("* 4 FETCH (UID 4 BODY[] {1}", "4)", "a OK"),
		"a UID STORE 4 +FLAGS (b)":  replies(`* 4 FETCH (UID 4 FLAGS (\Seen b))`, "a OK"),
		"a FETCH 4 FLAGS\r\nb NOOP": replies(`* 4 FETCH (FLAGS (\Seen))`, "a OK", "* 2 EXPUNGE", "* 2 EXPUNGE", "* 3 EXPUNGE", "* 4 EXISTS", "b OK"),
	} {
		wantOuts(t, append(change[:len(change):len(change)], sent(0, command)), map[int]string{0: greeting(5, 6) + want, 1: other})
	}
	// The flags that a mail comes with are known, and told only when they change.
	wantOuts(t, append(change[:len(change):len(change)], sent(0, "a NOOP", "b NOOP"), sent(1, "x NOOP", "x STORE 3 FLAGS (a)"), sent(0, "c NOOP")), map[int]string{
		0: greeting(5, 6) + news + replies("* 4 EXISTS", "a OK", "b OK", "* 3 FETCH (FLAGS (a))", "c OK"),
		1: other + replies("* 4 EXISTS", "x OK", "* 3 FETCH (FLAGS (a))", "x OK"),
	})
	// Flags that come back to what is known are not told.
	back := []impl.Event{mailed("1", 8), imapOn(0), imapOn(1), sent(1, "x STORE 1 FLAGS ()", `x STORE 1 FLAGS (\Seen)`), sent(0, "a NOOP")}
	wantOuts(t, back, map[int]string{0: greeting(1, 2) + replies("a OK"), 1: greeting(1, 2) + replies("* 1 FETCH (FLAGS ())", "x OK", `* 1 FETCH (FLAGS (\Seen))`, "x OK")})
}

func TestImapExpunges(t *testing.T) {
	wantOuts(t, append(threeLetters(), imapOn(0), sent(0, "a EXPUNGE", "b EXPUNGE", `c STORE 1:* FLAGS (\Deleted)`, "d EXPUNGE", "e EXPUNGE", "f FETCH 1:* UID", "g UID FETCH * UID")), map[int]string{
		0: greeting(3, 4) + replies("* 2 EXPUNGE", "a OK", "b OK", `* 1 FETCH (FLAGS (\Deleted))`, `* 2 FETCH (FLAGS (\Deleted))`, "c OK", "* 1 EXPUNGE", "* 1 EXPUNGE", "d OK", "e OK", "f OK", "g OK"),
	})
	// All mails that are deleted go, also those that the session does not know.
	wantOuts(t, []impl.Event{imapOn(0), mailed("a", 4), mailed("b", 0), sent(0, "a EXPUNGE", "b FETCH 1:* UID")}, map[int]string{
		0: greeting(0, 1) + replies("* 1 EXISTS", "a OK", "* 1 FETCH (UID 2)", "b OK"),
	})
}

func TestImapAppends(t *testing.T) {
	full := strings.Repeat("From \n", impl.MaxBody/6) + "ab"
	for i, s := range formsOf([]impl.Event{
		imapOn(0), tick(5), raw(0, "a APPEND {2}\r\nhi\r\n"), tick(1000000), raw(0, `b APPEND (\Deleted z) {0}`+"\r\n\r\n"),
		raw(0, fmt.Sprintf("c APPEND () {%d}\r\n%s\r\n", len(full), full)), raw(0, "d APPEND {8001}\r\ne APPEND {3}\r\nabcd\r\nf append {3}\r\n\r\n\r\r\n"),
	}) {
		got := impl.Run(s)
		want := greeting(0, 1) + replies("* 1 EXISTS", "a OK", "* 2 EXISTS", "b OK", "* 3 EXISTS", "c OK", "* BAD", "* BAD", "* BAD", "* 4 EXISTS", "f OK")
		if string(got.Outs[0]) != want {
			t.Errorf("form %d: %q, want %q", i, got.Outs[0], want)
		}
		box := impl.View{Validity: 7, Next: 5, Mails: []impl.Mail{
			{Uid: 1, Stamp: 5, Body: []byte("hi")}, {Uid: 2, Stamp: 1000005, Flags: 4 | 1<<30}, {Uid: 3, Stamp: 1000005, Body: []byte(full)}, {Uid: 4, Stamp: 1000005, Body: []byte("\r\n\r")},
		}}
		if now := tellMails(impl.Look(got.Disk)); now != tellMails(box) {
			t.Errorf("form %d:\n%.500s", i, now)
		}
	}
}

// Promise 16, of IMAP: one reply for each, with the tag if there is one, and
// nothing changes.
func TestImapSessionsOnBadLines(t *testing.T) {
	long := strings.Repeat("x", impl.MaxLine)
	bad := map[string]string{
		"": "*", " ": "*", "a": "*", "a-b NOOP": "*", "a ": "a", "a  NOOP": "a", "a NOOP ": "a", "a EXPUNGE 1": "a", "a STORE 1 FLAGS a": "a", "a STORE 0 FLAGS ()": "a", "a FETCH 1 ()": "a", "a FETCH x UID": "a",
		"a UID EXPUNGE": "a", "a APPEND ": "a", "a APPEND () ": "a", "a NOOP {3}\r\nabc": "a", "a EXPUNGE{0}\r\n": "a", "a APPEND{1}\r\nx": "a", "a APPEND (A) {1}\r\nx": "a", "a APPEND () () {1}\r\nx": "a", "a STORE 1 FLAGS () {2}\r\nxy": "a",
		long: "*", long + "y": "*", "a " + long: "*", "a " + long[2:]: "a", "a APPEND {8001}": "*", "a APPEND {999999999}": "*", "a APPEND {1000000000}": "a", "a APPEND {01}": "a", strings.Repeat("t", impl.MaxTag) + " NOPE": strings.Repeat("t", impl.MaxTag), strings.Repeat("t", impl.MaxTag+1) + " NOOP": "*", "QUIT": "*", "STAT": "*",
	}
	for text, tag := range bad {
		events := append(threeLetters(), imapOn(0), mailed("new", 0), sent(0, text))
		wantOuts(t, events, map[int]string{0: greeting(3, 4) + replies(tag+" BAD")})
		wantSameDisk(t, events, append(threeLetters(), mailed("new", 0)))
		// And it catches up with the next that is good.
		wantOuts(t, append(events, sent(0, "b NOOP")), map[int]string{0: greeting(3, 4) + replies(tag+" BAD", "* 4 EXISTS", "b OK")})
	}
}

// Several sessions of both protocols at once.
func TestSessionsTogether(t *testing.T) {
	events := []impl.Event{
		imapOn(0), popOn(1), imapOn(2), mailed("one", 0), popOn(3),
		sent(0, "a NOOP", `a STORE 1 +FLAGS (\Flagged)`), sent(1, "STAT"), sent(3, "STAT", "DELE 1"),
		raw(2, "b APPEND (\\Deleted) {3}\r\ntwo\r\n"), popOn(4), sent(4, "LIST"), sent(0, "a UID FETCH 1:* (FLAGS BODY[])", "a NOOP", "a EXPUNGE"),
		sent(4, "LIST", "RETR 2", "DELE 2", "DELE 1"), sent(3, "QUIT"), sent(2, "b FETCH 1:* UID", "b NOOP"), sent(4, "STAT", "QUIT"), sent(0, "a NOOP", "a LOGOUT"), sent(2, "b LOGOUT"),
	}
	wantOuts(t, events, map[int]string{
		0: greeting(0, 1) + replies("* 1 EXISTS", "a OK", `* 1 FETCH (FLAGS (\Flagged))`, "a OK", `* 1 FETCH (UID 1 FLAGS (\Flagged) BODY[] {3}`, "one)", "a OK", "* 2 EXISTS", "a OK", "* 2 EXPUNGE", "a OK", "* 1 EXPUNGE", "a OK", "* BYE", "a OK"),
		1: popGreeting + replies("+OK 0 0"),
		2: greeting(0, 1) + replies("* 2 EXISTS", "b OK", "b OK", "* 1 EXPUNGE", "* 1 EXPUNGE", "b OK", "* BYE", "b OK"),
		3: popGreeting + replies("+OK 1 3", "+OK", "+OK bye"),
		4: popGreeting + replies("+OK", "1 3", "2 3", ".", "+OK", "1 3", ".", "-ERR none", "-ERR none", "+OK", "+OK 0 0", "+OK bye"),
	})
}
