package tests

import (
	"bytes"
	"fmt"
	"strings"
	"testing"

	"loop.example/s02349/impl"
)

func tellOutcome(o impl.Outcome) string {
	return fmt.Sprintf("code %d spaces %d outs %q %s", o.Code, o.Spaces, o.Outs, tell(o.Disk))
}

func wantBadScript(t *testing.T, s impl.Script) {
	t.Helper()
	if got := impl.Run(s); got.Code != 1 || got.Spaces != 0 || len(got.Outs) != 0 || tell(got.Disk) != tell(impl.Disk{}) {
		t.Errorf("kind %d validity %d quota %d, %d events: %.300s", s.Kind, s.Validity, s.Quota, len(s.Events), tellOutcome(got))
	}
}

func TestBadScripts(t *testing.T) {
	for _, s := range []impl.Script{
		{}, {Kind: 0, Validity: 1, Quota: 999}, {Kind: impl.KindMoving, Validity: 1, Quota: 999}, {Kind: 4, Validity: 1, Quota: 999}, {Kind: -1, Validity: 1, Quota: 999},
		{Kind: impl.KindMbox, Validity: 0, Quota: 999}, {Kind: impl.KindMaildir, Validity: 0, Quota: 999}, {Kind: impl.KindMbox, Validity: 1, Quota: 12}, {Kind: impl.KindMaildir, Validity: 1, Quota: 10},
		{Kind: impl.KindMbox, Validity: 1, Quota: -1}, {Kind: impl.KindMaildir, Validity: 1, Quota: impl.MaxQuota + 1},
	} {
		wantBadScript(t, s)
	}
	// Whatever its kind, an event is good in all of its fields or bad.
	for kind := 1; kind <= 7; kind++ {
		for _, e := range []impl.Event{
			{Conn: -1}, {Conn: impl.MaxConns}, {Conn: 1 << 40}, {Conn: -1 << 63}, {N: -1}, {N: impl.MaxTick + 1}, {N: 1<<63 - 1}, {Flags: bit31}, {Flags: 1<<32 - 1}, {Text: make([]byte, impl.MaxText+1)},
		} {
			e.Kind = kind
			wantBadScript(t, script(impl.KindMbox, e))
			wantBadScript(t, script(impl.KindMaildir, popOn(0), e))
			wantBadScript(t, script(impl.KindMaildir, e, popOn(0)))
		}
	}
	for _, kind := range []int{0, -1, 8, 1 << 40, -1 << 63} {
		wantBadScript(t, script(impl.KindMbox, impl.Event{Kind: kind}))
	}
	wantBadScript(t, script(impl.KindMbox, make([]impl.Event, impl.MaxEvents+1)...))
	many := make([]impl.Event, impl.MaxEvents+1)
	for i := range many {
		many[i] = tick(0)
	}
	wantBadScript(t, script(impl.KindMbox, many...))
	if got := impl.Run(script(impl.KindMbox, many[1:]...)); got.Code != 0 {
		t.Error("code", got.Code, "of", impl.MaxEvents, "events")
	}
}

func TestScriptsAtTheLimits(t *testing.T) {
	for kind, least := range map[int]int{impl.KindMbox: 13, impl.KindMaildir: 11} {
		got := impl.Run(impl.Script{Kind: kind, Validity: 1, Quota: least})
		want := impl.Outcome{Outs: make([][]byte, impl.MaxConns), Disk: impl.Format(kind, 1, least)}
		if tellOutcome(got) != tellOutcome(want) {
			t.Errorf("kind %d: %s", kind, tellOutcome(got))
		}
	}
	for kind := 1; kind <= 7; kind++ {
		e := impl.Event{Kind: kind, Conn: impl.MaxConns - 1, N: impl.MaxTick, Flags: impl.AllFlags, Text: make([]byte, impl.MaxText)}
		if got := impl.Run(script(impl.KindMaildir, e)); got.Code != 0 || len(got.Outs) != impl.MaxConns {
			t.Errorf("event of kind %d: code %d", kind, got.Code)
		}
	}
}

// A clock that only ticks move, and deliveries that are too long.
func TestDeliveriesOfScripts(t *testing.T) {
	full := strings.Repeat("x", impl.MaxBody)
	events := []impl.Event{mailed("a", 3), tick(7), tick(0), mailed(full, impl.AllFlags), mailed(full+"x", 0), tick(impl.MaxTick), mailed("", 0), {Kind: impl.EvMove, N: 9}, mailed("b", 0)}
	for i, s := range formsOf(events) {
		got := impl.Run(s)
		box := impl.View{Validity: 7, Next: 5, Mails: []impl.Mail{
			{Uid: 1, Flags: 3, Body: []byte("a")}, {Uid: 2, Stamp: 7, Flags: impl.AllFlags, Body: []byte(full)}, {Uid: 3, Stamp: 1000007}, {Uid: 4, Stamp: 1000007, Body: []byte("b")},
		}}
		if now := tellMails(impl.Look(got.Disk)); got.Spaces != 0 || now != tellMails(box) {
			t.Errorf("form %d: spaces %d\n%.500s", i, got.Spaces, now)
		}
	}
}

// The disk at the end is the one that the same requests make.
func TestTheDiskAtTheEnd(t *testing.T) {
	for _, kind := range []int{impl.KindMbox, impl.KindMaildir} {
		got := impl.Run(script(kind, mailed("a", 1), tick(3), mailed("b", 0), moved(), imapOn(0), sent(0, "a STORE 2 FLAGS (a)", "a STORE 2 FLAGS (a)"), moved(), popOn(1), sent(1, "DELE 1", "QUIT")))
		want := carried(t, impl.Format(kind, 7, impl.MaxQuota), delivery("a", 0, 1), delivery("b", 3, 0), moveStep(), flagging(2, 32), flagging(2, 32), moveStep(), expunging(1))
		if got.Code != 0 || got.Spaces != 0 || tell(got.Disk) != tell(want) {
			t.Errorf("kind %d code %d spaces %d\n%s\nwant\n%s", kind, got.Code, got.Spaces, tell(got.Disk), tell(want))
		}
	}
}

func TestEventsOnOpenAndClosedConnections(t *testing.T) {
	for _, row := range []struct {
		events []impl.Event
		want   string
	}{
		{[]impl.Event{sent(0, "NOOP"), closeOn(0), sent(0, "NOOP")}, ""},
		{[]impl.Event{popOn(0), popOn(0), imapOn(0), sent(0, "NOOP")}, popGreeting + replies("+OK")},
		{[]impl.Event{imapOn(0), imapOn(0), popOn(0), sent(0, "a NOOP")}, greeting(0, 1) + replies("a OK")},
		{[]impl.Event{popOn(0), closeOn(0), sent(0, "NOOP"), closeOn(0)}, popGreeting},
		{[]impl.Event{popOn(0), closeOn(0), imapOn(0), sent(0, "a NOOP"), closeOn(0), popOn(0), sent(0, "NOOP")}, popGreeting + greeting(0, 1) + replies("a OK") + popGreeting + replies("+OK")},
		// What was read of a line is forgotten with the session.
		{[]impl.Event{popOn(0), raw(0, "NO"), closeOn(0), popOn(0), raw(0, "OP\r\n")}, popGreeting + popGreeting + replies("-ERR bad")},
		{[]impl.Event{popOn(0), raw(0, "QUIT\r\nNO"), popOn(0), raw(0, "OP\r\n")}, popGreeting + replies("+OK bye") + popGreeting + replies("-ERR bad")},
		{[]impl.Event{imapOn(0), raw(0, "a APPEND {9}\r\nx"), closeOn(0), imapOn(0), sent(0, "a NOOP")}, greeting(0, 1) + greeting(0, 1) + replies("a OK")},
		{[]impl.Event{imapOn(0), raw(0, "a LOGOUT\r\na APPEND {9}\r\nx"), imapOn(0), sent(0, "a NOOP")}, greeting(0, 1) + replies("* BYE", "a OK") + greeting(0, 1) + replies("a OK")},
		// Nothing is done behind the unit that closes.
		{[]impl.Event{popOn(0), sent(0, "QUIT", "NOOP", "QUIT"), sent(0, "NOOP")}, popGreeting + replies("+OK bye")},
		{[]impl.Event{imapOn(0), sent(0, "a LOGOUT", "b NOOP", "c LOGOUT"), sent(0, "d NOOP")}, greeting(0, 1) + replies("* BYE", "a OK")},
		{[]impl.Event{popOn(0), raw(0, ""), raw(0, "")}, popGreeting},
	} {
		wantOuts(t, row.events, map[int]string{0: row.want})
	}
	// Connections are apart from each other.
	wantOuts(t, []impl.Event{popOn(0), imapOn(7), raw(0, "ST"), raw(7, "a NO"), closeOn(1), raw(0, "AT\r\n"), raw(7, "OP\r\n"), closeOn(0), sent(7, "b NOOP")},
		map[int]string{0: popGreeting + replies("+OK 0 0"), 7: greeting(0, 1) + replies("a OK", "b OK")})
}

// In whatever pieces a stream comes, the replies are the same.
func TestStreamsInPieces(t *testing.T) {
	streams := map[int]string{
		impl.EvPop:  "STAT\r\nLIST\r\n\r\nRETR 1\r\nDELE 1\r\nbad\r\nQUIT\r\nNOOP\r\n",
		impl.EvImap: "a NOOP\r\nb APPEND (\\Seen) {4}\r\n\r\n{\r\r\n\r\nc APPEND {2}\r\nabc d\r\ne UID FETCH 1:* (BODY[] FLAGS)\r\nf LOGOUT\r\ng NOOP\r\n",
	}
	for kind, stream := range streams {
		begin := []impl.Event{mailed(".a\nb", 0), {Kind: kind}}
		want := map[int]string{0: string(impl.Run(script(impl.KindMbox, append(begin, raw(0, stream))...)).Outs[0])}
		if len(want[0]) < 50 {
			t.Fatalf("%q", want[0])
		}
		single := begin[:2:2]
		for at := range len(stream) {
			wantOuts(t, append(begin[:2:2], raw(0, stream[:at]), raw(0, stream[at:])), want)
			single = append(single, raw(0, stream[at:at+1]))
		}
		wantOuts(t, single, want)
	}
}

func TestRestsThatAreTooLong(t *testing.T) {
	full := strings.Repeat("x", impl.MaxText)
	if impl.MaxText != impl.MaxRest {
		t.Fatal("a text is not as long as a rest")
	}
	for kind, row := range map[int]struct{ greeting, long, bad string }{
		impl.EvPop:  {popGreeting, replies("-ERR long"), replies("-ERR bad")},
		impl.EvImap: {greeting(0, 1), replies("* BYE long"), replies("* BAD")},
	} {
		begin := impl.Event{Kind: kind}
		wantOuts(t, []impl.Event{begin, raw(0, full)}, map[int]string{0: row.greeting})
		wantOuts(t, []impl.Event{begin, raw(0, full), sent(0, ""), sent(0, "")}, map[int]string{0: row.greeting + row.bad + row.bad})
		wantOuts(t, []impl.Event{begin, raw(0, full), raw(0, "x"), sent(0, "", ""), closeOn(0)}, map[int]string{0: row.greeting + row.long})
		wantOuts(t, []impl.Event{begin, raw(0, full), raw(0, "\r"), sent(0, "")}, map[int]string{0: row.greeting + row.long})
		wantOuts(t, []impl.Event{begin, raw(0, full), raw(0, full), begin, sent(0, "")}, map[int]string{0: row.greeting + row.long + row.greeting + row.bad})
		// Only what is left of it counts, not what came.
		wantOuts(t, []impl.Event{begin, raw(0, full), raw(0, "\r\n"+full[2:]), raw(0, "xx"), raw(0, "x")}, map[int]string{0: row.greeting + row.bad + row.long})
	}
	// A literal that is not there yet is a rest, too.
	head := "a APPEND {8000}\r\n"
	body := full[:8000]
	wantOuts(t, []impl.Event{imapOn(0), raw(0, head+body), raw(0, "\r"), raw(0, "\n"+full[:8999]), raw(0, "yy")}, map[int]string{0: greeting(0, 1) + replies("* 1 EXISTS", "a OK", "* BYE long")})
}

// noops fill what was written on connection 0, POP's greeting and 9 bytes of
// each STAT among them, up to just MaxOut bytes.
func noops() []impl.Event {
	events := []impl.Event{popOn(0), sent(0, "STAT", "STAT", "STAT", "STAT")}
	for left := (impl.MaxOut - 5*9) / 5; left > 0; left -= 1500 {
		events = append(events, raw(0, strings.Repeat("NOOP\r\n", min(left, 1500))))
	}
	return events
}

func TestTheMostThatIsWritten(t *testing.T) {
	out := func(events ...impl.Event) string {
		got := impl.Run(script(impl.KindMaildir, append(noops(), events...)...))
		if got.Code != 0 || len(got.Outs[0]) < impl.MaxOut || len(got.Outs[1]) != 0 {
			t.Fatalf("code %d, %d bytes", got.Code, len(got.Outs[0]))
		}
		return string(got.Outs[0][impl.MaxOut:])
	}
	for _, row := range []struct {
		events []impl.Event
		want   string
	}{
		{nil, ""},
		// Just MaxOut bytes do not close it, what goes beyond does, without a word.
		{[]impl.Event{sent(0, "NOOP")}, replies("+OK")},
		{[]impl.Event{sent(0, "STAT", "NOOP"), sent(0, "NOOP")}, replies("+OK 0 0")},
		{[]impl.Event{sent(0, "LIST", "NOOP")}, replies("+OK", ".")},
		{[]impl.Event{sent(0, "NOOP"), popOn(0)}, replies("+OK") + popGreeting},
		{[]impl.Event{sent(0, "QUIT"), sent(0, "NOOP")}, replies("+OK bye")},
		// A greeting is no unit; the first unit behind it closes again.
		{[]impl.Event{sent(0, "NOOP"), imapOn(0), sent(0, "a NOOP", "b NOOP"), sent(0, "c NOOP")}, replies("+OK") + greeting(0, 1) + replies("a OK")},
		{[]impl.Event{closeOn(0), popOn(0), raw(0, "NO"), raw(0, "OP\r\nNOOP\r\n"), popOn(0)}, popGreeting + replies("+OK") + popGreeting},
		// Nor is a rest a unit.
		{[]impl.Event{closeOn(0), popOn(0), raw(0, strings.Repeat("x", impl.MaxRest)), raw(0, "x")}, popGreeting + replies("-ERR long")},
		{[]impl.Event{sent(0, "NOOP"), popOn(0), raw(0, "NOOP\r\nNO"), popOn(0), raw(0, "OP\r\n")}, replies("+OK") + popGreeting + replies("+OK") + popGreeting + replies("-ERR bad")},
	} {
		if got := out(row.events...); got != row.want {
			t.Errorf("%q, want %q", got, row.want)
		}
	}
	// What is marked in a session that is closed so stays there.
	full := impl.Run(script(impl.KindMbox, append(noops(), mailed("a", 0), closeOn(0), popOn(0), sent(0, "DELE 1", "QUIT"))...))
	if got := impl.Look(full.Disk); len(got.Mails) != 1 {
		t.Error("expunged behind the end")
	}
}

// A unit's reply is written whole, however long it is.
func TestLongReplies(t *testing.T) {
	var events []impl.Event
	body := strings.Repeat("y", 3000)
	for range 30 {
		events = append(events, mailed(body, 0))
	}
	events = append(events, imapOn(0), sent(0, "a FETCH 1:* BODY[]", "b NOOP"))
	got := impl.Run(script(impl.KindMaildir, events...))
	if out := string(got.Outs[0]); len(out) < 90000 || !strings.HasSuffix(out, "a OK\r\n") || strings.Count(out, body) != 30 {
		t.Errorf("%d bytes, %d bodies", len(got.Outs[0]), strings.Count(out, body))
	}
}

// tight has a quota that leaves so many bytes behind the events.
func tight(kind, room int, events ...impl.Event) impl.Script {
	s := script(kind, events...)
	used, _ := modelUsed(impl.Run(s).Disk)
	s.Quota = used + room
	return s
}

func TestSpaceInSessions(t *testing.T) {
	one := []impl.Event{mailed("one", 4), mailed("two", 0)}
	for _, row := range []struct {
		name         string
		kind, room   int
		events       []impl.Event
		spaces, conn int
		want         string
	}{
		{"append", impl.KindMaildir, 2, []impl.Event{imapOn(0), raw(0, "a APPEND {3}\r\nxyz\r\nb APPEND {2}\r\nxy\r\n")}, 1, 0, greeting(2, 3) + replies("a NO", "* 3 EXISTS", "b OK")},
		{"append", impl.KindMbox, 0, []impl.Event{imapOn(0), mailed("x", 0), raw(0, "a APPEND {0}\r\n\r\nb NOOP\r\n")}, 2, 0, greeting(2, 3) + replies("a NO", "b OK")},
		{"store", impl.KindMbox, 11, []impl.Event{imapOn(0), sent(0, "a STORE 1:* FLAGS ()", "b STORE 1:* +FLAGS (a)", "c NOOP", "d FETCH 1:* FLAGS")}, 1, 0,
			greeting(2, 3) + replies("* 1 FETCH (FLAGS ())", "* 2 FETCH (FLAGS ())", "a OK", "b NO", "c OK", "* 1 FETCH (FLAGS ())", "* 2 FETCH (FLAGS ())", "d OK")},
		{"store half", impl.KindMbox, 12, []impl.Event{imapOn(0), sent(0, "a UID STORE 1:* +FLAGS (a)", "b NOOP", "c STORE 2 FLAGS ()")}, 1, 0,
			greeting(2, 3) + replies(`* 1 FETCH (UID 1 FLAGS (\Deleted a))`, "a NO", "b OK", "* 2 FETCH (FLAGS ())", "c OK")},
		{"expunge", impl.KindMbox, 20, []impl.Event{imapOn(0), sent(0, "a EXPUNGE", "b NOOP", "c FETCH 1:* UID")}, 1, 0,
			greeting(2, 3) + replies("a NO", "b OK", "* 1 FETCH (UID 1)", "* 2 FETCH (UID 2)", "c OK")},
		{"expunge", impl.KindMaildir, 10, []impl.Event{imapOn(0), mailed("x", 0), sent(0, "a EXPUNGE", "b NOOP")}, 1, 0, greeting(2, 3) + replies("a NO", "* 3 EXISTS", "b OK")},
		{"quit", impl.KindMbox, 20, []impl.Event{popOn(1), sent(1, "DELE 2", "QUIT", "STAT", "RETR 2", "QUIT", "RSET", "STAT", "QUIT", "STAT")}, 2, 1,
			popGreeting + replies("+OK", "-ERR space", "+OK 1 3", "-ERR none", "-ERR space", "+OK", "+OK 2 6", "+OK bye")},
		{"quit", impl.KindMaildir, 10, []impl.Event{popOn(1), sent(1, "DELE 1", "QUIT", "NOOP")}, 1, 1, popGreeting + replies("+OK", "-ERR space", "+OK")},
		{"move", impl.KindMbox, 6, []impl.Event{moved(), moved(), popOn(0), sent(0, "STAT")}, 2, 0, popGreeting + replies("+OK 2 6")},
		{"move", impl.KindMbox, 7, []impl.Event{moved(), moved(), moved(), popOn(0), sent(0, "STAT")}, 2, 0, popGreeting + replies("+OK 2 6")},
		{"deliver", impl.KindMaildir, 1, []impl.Event{mailed("xx", 0), mailed("x", 0), mailed("y", 0), mailed("", 0), popOn(0), sent(0, "STAT")}, 2, 0, popGreeting + replies("+OK 4 7")},
		// Other refusals are no lack of space.
		{"too long", impl.KindMaildir, 0, []impl.Event{mailed(strings.Repeat("x", impl.MaxBody+1), 0), popOn(0), sent(0, "STAT")}, 0, 0, popGreeting + replies("+OK 2 6")},
	} {
		s := tight(row.kind, row.room, one...)
		s.Events = append(s.Events[:2:2], row.events...)
		got := impl.Run(s)
		if got.Code != 0 || got.Spaces != row.spaces || string(got.Outs[row.conn]) != row.want {
			t.Errorf("%s in kind %d: code %d spaces %d\n%q\nwant spaces %d\n%q", row.name, row.kind, got.Code, got.Spaces, got.Outs[row.conn], row.spaces, row.want)
		}
	}
}

// A delivery that is one mail too many is refused in every form, and is no lack
// of space.
func TestFullMailboxesInSessions(t *testing.T) {
	var events []impl.Event
	for range impl.MaxMails {
		events = append(events, mailed("", 0))
	}
	events = append(events, imapOn(0), raw(0, "a APPEND {1}\r\nx\r\nb STORE 7 FLAGS (\\Deleted)\r\nc EXPUNGE\r\nd APPEND {1}\r\nx\r\n"), mailed("y", 0), sent(0, "e NOOP"))
	wantOuts(t, events, map[int]string{0: greeting(100, 101) + replies("a NO", `* 7 FETCH (FLAGS (\Deleted))`, "b OK", "* 7 EXPUNGE", "c OK", "* 100 EXISTS", "d OK", "e OK")})
}

func TestRunKeepsToItself(t *testing.T) {
	s := script(impl.KindMbox, mailed("one", 4), popOn(0), imapOn(1), raw(0, "RETR 1\r\nNO"), raw(1, "a APPEND {2}\r\nhi\r\na FETCH 1:* BODY[]\r\nrest"), raw(0, "OP\r\n"))
	var kept [][]byte
	for _, e := range s.Events {
		kept = append(kept, bytes.Clone(e.Text))
	}
	first := impl.Run(s)
	want := tellOutcome(first)
	for i, e := range s.Events {
		if !bytes.Equal(e.Text, kept[i]) {
			t.Errorf("event %d is written to: %q", i, e.Text)
		}
	}
	other := impl.Run(s)
	for i := range other.Outs {
		scribbleBytes(other.Outs[i])
	}
	scribble(other.Disk)
	if tellOutcome(first) != want || tellOutcome(impl.Run(s)) != want {
		t.Error("runs share memory")
	}
	lone := impl.Run(s)
	scribbleBytes(lone.Outs[0])
	if string(lone.Outs[1]) != string(first.Outs[1]) || tell(lone.Disk) != tell(first.Disk) {
		t.Error("lists of one outcome share memory")
	}
	for _, e := range s.Events {
		scribbleBytes(e.Text)
	}
	if tellOutcome(first) != want {
		t.Error("an outcome shares memory with its script")
	}
}
