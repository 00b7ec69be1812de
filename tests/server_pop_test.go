package tests

import (
	"fmt"
	"strings"
	"testing"

	"loop.example/s02349/impl"
)

const popGreeting = "+OK pop\r\n"

// threeLetters are mails of 3, 0 and 6 bytes.
func threeLetters() []impl.Event {
	return []impl.Event{mailed("one", 0), mailed("", impl.FlagDeleted), mailed("three\n", 8)}
}

func TestPopReplies(t *testing.T) {
	events := append(threeLetters(), popOn(0), sent(0,
		"STAT", "LIST", "UIDL", "LIST 1", "LIST 3", "UIDL 2", "RETR 1", "RETR 2", "RETR 3", "NOOP",
		"LIST 4", "UIDL 4", "RETR 4", "DELE 4", "LIST 4294967295", "RETR 100",
		"DELE 2", "STAT", "LIST", "UIDL", "LIST 2", "UIDL 2", "RETR 2", "DELE 2", "LIST 3",
		"RSET", "STAT", "DELE 1", "DELE 3", "LIST", "noop", "QUIT"))
	wantOuts(t, events, map[int]string{0: popGreeting + replies(
		"+OK 3 9", "+OK", "1 3", "2 0", "3 6", ".", "+OK", "1 1", "2 2", "3 3", ".", "+OK 1 3", "+OK 3 6", "+OK 2 2",
		"+OK 3", "one", ".", "+OK 0", ".", "+OK 6", "three", ".", "+OK",
		"-ERR none", "-ERR none", "-ERR none", "-ERR none", "-ERR none", "-ERR none",
		"+OK", "+OK 2 9", "+OK", "1 3", "3 6", ".", "+OK", "1 1", "3 3", ".", "-ERR none", "-ERR none", "-ERR none", "-ERR none", "+OK 3 6",
		"+OK", "+OK 3 9", "+OK", "+OK", "+OK", "2 0", ".", "+OK", "+OK bye")})
}

func TestPopOfAnEmptyMailbox(t *testing.T) {
	wantOuts(t, []impl.Event{popOn(0), sent(0, "STAT", "LIST", "UIDL", "LIST 1", "RETR 1", "DELE 1", "RSET", "QUIT")},
		map[int]string{0: popGreeting + replies("+OK 0 0", "+OK", ".", "+OK", ".", "-ERR none", "-ERR none", "-ERR none", "+OK", "+OK bye")})
}

func TestPopLinesOfBodies(t *testing.T) {
	for body, lines := range map[string][]string{
		"":                        nil,
		"\n":                      {""},
		"\n\n":                    {"", ""},
		"a":                       {"a"},
		"a\n":                     {"a"},
		"a\n\n":                   {"a", ""},
		"\na":                     {"", "a"},
		".":                       {".."},
		".\n":                     {".."},
		"..":                      {"..."},
		"a.\n.b\n":                {"a.", "..b"},
		"\n.":                     {"", ".."},
		"a\r\n.\r\n":              {"a\r", "..\r"},
		"From x\n>From ":          {"From x", ">From "},
		"\x00\xff\n":              {"\x00\xff"},
		strings.Repeat(".\n", 99): strings.Split(strings.Repeat("..|", 98)+"..", "|"),
	} {
		want := popGreeting + replies("+OK "+numeral(len(body))) + replies(lines...) + replies(".")
		wantOuts(t, []impl.Event{mailed(body, 0), popOn(3), sent(3, "RETR 1")}, map[int]string{3: want})
	}
}

// wantLeft asks which mails are there at the end.
func wantLeft(t *testing.T, events []impl.Event, uids ...uint32) {
	t.Helper()
	for i, s := range formsOf(events) {
		var now []uint32
		for _, m := range impl.Look(impl.Run(s).Disk).Mails {
			now = append(now, m.Uid)
		}
		if fmt.Sprint(now) != fmt.Sprint(uids) {
			t.Errorf("form %d: uids %v, want %v", i, now, uids)
		}
	}
}

// What is marked goes with QUIT, not before, and not with a close.
func TestPopExpunges(t *testing.T) {
	marking := append(threeLetters(), popOn(0), sent(0, "DELE 1", "DELE 3"))
	begun := popGreeting + replies("+OK", "+OK")
	wantLeft(t, marking, 1, 2, 3)
	quit := append(marking[:5:5], sent(0, "QUIT"))
	wantOuts(t, quit, map[int]string{0: begun + replies("+OK bye")})
	wantLeft(t, quit, 2)
	reset := append(marking[:5:5], sent(0, "RSET", "QUIT"))
	wantOuts(t, reset, map[int]string{0: begun + replies("+OK", "+OK bye")})
	wantLeft(t, reset, 1, 2, 3)
	closed := append(marking[:5:5], closeOn(0), popOn(0), sent(0, "STAT", "QUIT"))
	wantOuts(t, closed, map[int]string{0: begun + popGreeting + replies("+OK 3 9", "+OK bye")})
	wantLeft(t, closed, 1, 2, 3)
	all := append(threeLetters(), popOn(0), sent(0, "DELE 3", "DELE 1", "DELE 2", "QUIT"))
	wantLeft(t, all)
}

// Mails that come stay unknown, and mails that another session took away are
// no good places any more; places stay as they are.
func TestPopUnderOtherSessions(t *testing.T) {
	events := append(threeLetters(), popOn(0), popOn(1), sent(1, "DELE 1", "DELE 2"), sent(0, "DELE 2", "STAT"), mailed("new", 0), sent(1, "QUIT"),
		sent(0, "STAT", "LIST", "UIDL", "RETR 1", "DELE 1", "LIST 3", "RSET", "STAT", "LIST 2"), sent(0, "DELE 3", "QUIT"), popOn(0), sent(0, "UIDL"))
	wantOuts(t, events, map[int]string{
		0: popGreeting + replies("+OK", "+OK 2 9", "+OK 1 6", "+OK", "3 6", ".", "+OK", "3 3", ".", "-ERR none", "-ERR none", "+OK 3 6", "+OK", "+OK 1 6", "-ERR none", "+OK", "+OK bye") +
			popGreeting + replies("+OK", "1 4", "."),
		1: popGreeting + replies("+OK", "+OK", "+OK bye"),
	})
}

// Marked mails that are all gone already ask the store for nothing.
func TestPopQuitOfNothing(t *testing.T) {
	events := []impl.Event{mailed("a", 4), popOn(0), popOn(1), imapOn(2), sent(0, "DELE 1"), sent(1, "DELE 1"), sent(2, "x EXPUNGE"), sent(0, "STAT", "QUIT"), sent(1, "QUIT")}
	wantOuts(t, events, map[int]string{
		0: popGreeting + replies("+OK", "+OK 0 0", "+OK bye"),
		1: popGreeting + replies("+OK", "+OK bye"),
		2: greeting(1, 2) + replies("* 1 EXPUNGE", "x OK"),
	})
}

// Promise 16, of POP: one reply for each, and nothing changes.
func TestPopSessionsOnBadLines(t *testing.T) {
	bad := []string{"", " ", "STAT ", " STAT", "STAT 1", "LIST 0", "LIST  1", "LIST 1 ", "LIST x", "RETR", "RETR ", "DELE", "DELE 01", "DELE 4294967296", "RSET 1", "QUIT 1", "QUITE", "NOOP\r", "HELO x", "a NOOP", "LIST 1 {3}",
		strings.Repeat("x", impl.MaxLine), strings.Repeat("x", impl.MaxLine+1), "STAT" + strings.Repeat(" ", impl.MaxLine)}
	events := append(threeLetters(), popOn(0), sent(0, "DELE 1"), sent(0, bad...), sent(0, "STAT"))
	var want []string
	for range bad {
		want = append(want, "-ERR bad")
	}
	wantOuts(t, events, map[int]string{0: popGreeting + replies("+OK") + replies(want...) + replies("+OK 2 6")})
	wantSameDisk(t, events, threeLetters())
}
