package tests

import (
	"bytes"
	"fmt"
	"math/rand"
	"strings"
	"testing"

	"loop.example/s02349/impl"
)

func wantSet(t *testing.T, text string, want impl.Set) {
	t.Helper()
	if got := impl.ReadSet(text); fmt.Sprint(got) != fmt.Sprint(want) {
		t.Errorf("%.100q: %v, want %v", text, got, want)
	}
}

func setOf(places ...uint32) impl.Set {
	set := impl.Set{Ok: true}
	for i := 0; i < len(places); i += 2 {
		set.List = append(set.List, impl.Pair{From: places[i], To: places[i+1]})
	}
	return set
}

func TestSetsThatAreRead(t *testing.T) {
	wantSet(t, "1", setOf(1, 1))
	wantSet(t, "*", setOf(0, 0))
	wantSet(t, "4294967295", setOf(4294967295, 4294967295))
	wantSet(t, "1:2", setOf(1, 2))
	wantSet(t, "9:2", setOf(9, 2))
	wantSet(t, "*:2", setOf(0, 2))
	wantSet(t, "2:*", setOf(2, 0))
	wantSet(t, "*:*", setOf(0, 0))
	wantSet(t, "7:7,7,*,4294967295:1", setOf(7, 7, 7, 7, 0, 0, 4294967295, 1))
	most := impl.ReadSet(strings.Repeat("1,", impl.MaxSet-1) + "2:3")
	if !most.Ok || len(most.List) != impl.MaxSet || most.List[impl.MaxSet-1] != (impl.Pair{From: 2, To: 3}) {
		t.Error(most)
	}
}

func TestSetsThatAreNone(t *testing.T) {
	for _, text := range []string{
		"", " ", ",", "1,", ",1", "1,,2", ":", "1:", ":1", "::", "1::2", "1:2:3", "1:2,", "0", "00", "01", "1:0", "0:1", "1:01", "*1", "1*", "**", "*:",
		"4294967296", "1:4294967296", "18446744073709551617", "99999999999999999999999", "-1", "+1", "1 ", " 1", "1, 2", "1 :2", "1;2", "1-2", "a", "1a", "0x1", "1_0", "1\n", "1\x00", "\u0661", "1.0",
		strings.Repeat("1,", impl.MaxSet) + "1", strings.Repeat("1,", impl.MaxSet), strings.Repeat("1,", 100000) + "1",
	} {
		wantSet(t, text, impl.Set{})
	}
}

func TestSetsOfAllShortTexts(t *testing.T) {
	eachTextOf([]string{"0", "1", "20", "4294967295", "4294967296", "*", ":", ",", " "}, 5, func(text string) {
		if got, want := impl.ReadSet(text), plainSet(text); fmt.Sprint(got) != fmt.Sprint(want) {
			t.Fatalf("%q: %v, want %v", text, got, want)
		}
	})
}

func TestInSetOfOnePair(t *testing.T) {
	for max := range uint32(6) {
		for from := range uint32(6) {
			for to := range uint32(6) {
				low, high := from, to
				if low == 0 {
					low = max
				}
				if high == 0 {
					high = max
				}
				if low > high {
					low, high = high, low
				}
				for n := range uint32(7) {
					want := n != 0 && low <= n && n <= high
					if got := impl.InSet([]impl.Pair{{From: from, To: to}}, n, max); got != want {
						t.Fatalf("%d in %d:%d of %d: %v", n, from, to, max, got)
					}
				}
			}
		}
	}
}

func TestInSet(t *testing.T) {
	list := []impl.Pair{{From: 9, To: 7}, {From: 3, To: 3}, {From: 0, To: 4294967290}}
	for n, want := range map[uint32]bool{0: false, 1: false, 3: true, 4: false, 6: false, 7: true, 8: true, 9: true, 10: false, 4294967289: false, 4294967290: true, 4294967293: true, 4294967294: true, 4294967295: false} {
		if got := impl.InSet(list, n, 4294967294); got != want {
			t.Errorf("%d: %v", n, got)
		}
	}
	if impl.InSet(nil, 1, 1) || impl.InSet([]impl.Pair{}, 0, 0) || impl.InSet([]impl.Pair{{}}, 0, 0) || impl.InSet([]impl.Pair{{}}, 1, 0) {
		t.Error("an empty set has something")
	}
	// An empty list's end is 0, and 0 is below all numbers.
	if !impl.InSet([]impl.Pair{{From: 5}}, 3, 0) || impl.InSet([]impl.Pair{{From: 5}}, 6, 0) {
		t.Error("5:* of none")
	}
	if !impl.InSet([]impl.Pair{{From: 4294967295, To: 1}}, 4294967295, 4) {
		t.Error("the greatest number")
	}
}

func TestFlagLists(t *testing.T) {
	for _, row := range []struct {
		flags uint32
		text  string
	}{
		{0, "()"},
		{bit31, "()"},
		{impl.FlagAnswered, `(\Answered)`},
		{impl.FlagFlagged, `(\Flagged)`},
		{impl.FlagDeleted, `(\Deleted)`},
		{impl.FlagSeen, `(\Seen)`},
		{impl.FlagDraft, `(\Draft)`},
		{1 << 5, "(a)"},
		{1 << 30, "(z)"},
		{bit31 | 1<<30 | impl.FlagSeen, `(\Seen z)`},
		{1<<5 | impl.FlagDraft | impl.FlagAnswered, `(\Answered \Draft a)`},
		{impl.AllFlags, `(\Answered \Flagged \Deleted \Seen \Draft a b c d e f g h i j k l m n o p q r s t u v w x y z)`},
		{1<<32 - 1, `(\Answered \Flagged \Deleted \Seen \Draft a b c d e f g h i j k l m n o p q r s t u v w x y z)`},
	} {
		if got := impl.FlagList(row.flags); got != row.text {
			t.Errorf("%d: %q, want %q", row.flags, got, row.text)
		}
	}
}

// Promise 6, of lists.
func TestFlagListsComeBack(t *testing.T) {
	for _, flags := range someFlags() {
		text := impl.FlagList(flags | bit31)
		if got := impl.ReadFlagList(text); !got.Ok || got.Flags != flags {
			t.Fatalf("%d: %q gives %v", flags, text, got)
		}
		if text != impl.FlagList(flags) {
			t.Fatal("bit 31 is told", flags)
		}
	}
}

func TestFlagListsInOtherWords(t *testing.T) {
	for text, want := range map[string]uint32{
		"()": 0, `(\seen)`: 8, `(\SEEN)`: 8, `(\sEEn)`: 8, `(\Draft \DELETED \answered \fLAGGED \Seen)`: 31,
		"(z a)": 1<<5 | 1<<30, "(a a a)": 1 << 5, `(a \Seen a \seen)`: 8 | 1<<5, `(t s)`: 1<<(5+19) | 1<<(5+18),
		"(" + strings.Repeat("k ", 5000) + `\Draft)`: 16 | 1<<15,
	} {
		if got := impl.ReadFlagList(text); !got.Ok || got.Flags != want {
			t.Errorf("%.60q: %v, want %d", text, got, want)
		}
	}
	for _, text := range []string{
		"", "(", ")", ")(", "a", `\Seen`, "(a", "a)", "((a)", "(a))", "((a))", "( )", "( a)", "(a )", "(a  b)", "(a\tb)", "(a,b)", "()()", "(a)(b)", "() ", " ()", "(a) (b)",
		"(A)", "(Z)", "(ab)", "(1)", "({)", "(`)", `(\)`, `(\\Seen)`, `(Seen)`, `(\Recent)`, `(\Seen\Draft)`, `(\See)`, `(\Seenx)`, `(/Seen)`, "(\\\u017feen)", "(\\Flag\u0261ed)", "(\\\u212aeen)", "(\xe9)", "(a\x00)", "(a\n)", `(\DRAFT \DRAFTS)`,
	} {
		if got := impl.ReadFlagList(text); got != (impl.Flags{}) {
			t.Errorf("%q: %v", text, got)
		}
	}
	eachTextOf([]string{"(", ")", " ", "a", "B", `\`, `\seen`, `\Draft`}, 5, func(text string) {
		if got, want := impl.ReadFlagList(text), plainFlags(text); got != want {
			t.Fatalf("%q: %v, want %v", text, got, want)
		}
	})
}

func wantPop(t *testing.T, text string, want impl.Cmd) {
	t.Helper()
	if got := impl.ParsePop([]byte(text)); tellCmd(got) != tellCmd(want) {
		t.Errorf("%.100q: %s, want %s", text, tellCmd(got), tellCmd(want))
	}
}

func TestPopWords(t *testing.T) {
	for word, kind := range map[string]int{"NOOP": impl.CmdNoop, "QUIT": impl.CmdQuit, "STAT": impl.CmdStat, "RSET": impl.CmdRset, "RETR": impl.CmdRetr, "DELE": impl.CmdDele, "LIST": impl.CmdList, "UIDL": impl.CmdUidl} {
		alone, numbered := impl.Cmd{Kind: kind}, impl.Cmd{Kind: kind, N: 17}
		switch word {
		case "NOOP", "QUIT", "STAT", "RSET":
			numbered = impl.Cmd{}
		case "RETR", "DELE":
			alone = impl.Cmd{}
		}
		last := numbered
		if last.N != 0 {
			last.N = 4294967295
		}
		for _, form := range []string{word, strings.ToLower(word), word[:2] + strings.ToLower(word[2:]), strings.ToLower(word[:1]) + word[1:]} {
			wantPop(t, form, alone)
			wantPop(t, form+" 17", numbered)
			wantPop(t, form+" 4294967295", last)
			for _, wrong := range []string{form + " ", " " + form, form + "  17", form + " 17 ", " " + form + " 17", form + "17", form + "\t17", form + " 0", form + " 017", form + " 4294967296", form + " 18446744073709551633", form + " -1", form + " +1", form + " *", form + " x", form + " 17 17", form + " 1,2", form[1:], form[:3], form + "S", form + "\r", form + "\n", form + "\x00", form + " 17\r", form + " \u0661", form + " " + strings.Repeat("9", 100000)} {
				wantPop(t, wrong, impl.Cmd{})
			}
		}
	}
	for _, text := range []string{"", " ", "HELO", "USER x", "TOP 1 2", "FETCH 1 UID", "LI\u017fT", "UIDL\xff", "l\u0131st", "\u017ftat", strings.Repeat("NOOP", 1000)} {
		wantPop(t, text, impl.Cmd{})
	}
}

func wantImap(t *testing.T, u impl.Unit, want impl.Cmd) {
	t.Helper()
	if got := impl.ParseImap(u); tellCmd(got) != tellCmd(want) {
		t.Errorf("%.400s: %s, want %s", tellUnit(u), tellCmd(got), tellCmd(want))
	}
}

func TestImapTags(t *testing.T) {
	noop := func(tag string) impl.Cmd { return impl.Cmd{Kind: impl.CmdNoop, Tag: tag} }
	for _, tag := range []string{"a", "Z", "0", "9", "a1B2", strings.Repeat("x", impl.MaxTag)} {
		wantImap(t, line(tag+" NOOP"), noop(tag))
		wantImap(t, line(tag+" nope"), impl.Cmd{Tag: tag})
		wantImap(t, line(tag+" "), impl.Cmd{Tag: tag})
		wantImap(t, line(tag+"  NOOP"), impl.Cmd{Tag: tag})
	}
	for _, text := range []string{
		"", " ", "a", "NOOP", " NOOP", " a NOOP", "a\tNOOP", strings.Repeat("x", impl.MaxTag+1) + " NOOP", "a-b NOOP", "* NOOP", "+ NOOP", "a.1 NOOP", "a_ NOOP", "\u00e9 NOOP", "a\xff NOOP", "a\x00 NOOP",
		"@ NOOP", "[ NOOP", "` NOOP", "{ NOOP", "/ NOOP", ": NOOP", "\u017f NOOP", "\u0661 NOOP", strings.Repeat("x", impl.MaxTag),
	} {
		wantImap(t, line(text), impl.Cmd{Tag: "*"})
		wantImap(t, lineWith(text, "body"), impl.Cmd{Tag: "*"})
	}
	wantImap(t, impl.Unit{Line: []byte("a NOOP"), Bad: true}, impl.Cmd{Tag: "*"})
	wantImap(t, impl.Unit{Line: []byte("a APPEND "), Has: true, Bad: true}, impl.Cmd{Tag: "*"})
	wantImap(t, impl.Unit{Bad: true}, impl.Cmd{Tag: "*"})
	wantImap(t, line("a "+strings.Repeat("x", impl.MaxLine-2)), impl.Cmd{Tag: "a"})
	wantImap(t, line("a "+strings.Repeat("x", impl.MaxLine-1)), impl.Cmd{Tag: "*"})
	wantImap(t, lineWith("a "+strings.Repeat("x", impl.MaxLine-1), ""), impl.Cmd{Tag: "*"})
}

// A line that is too long is like none, even if it would be a command.
func TestTheLongestCommand(t *testing.T) {
	text := "aa STORE 1 FLAGS (" + strings.Repeat("b ", 140) + "c)"
	got := impl.ParseImap(line(text))
	if len(text) != impl.MaxLine || got.Kind != impl.CmdStore || got.Flags != 1<<6|1<<7 {
		t.Fatal(len(text), tellCmd(got))
	}
	wantImap(t, line("a"+text), impl.Cmd{Tag: "*"})
}

func TestImapCommands(t *testing.T) {
	one := setOf(1, 1).List
	for text, want := range map[string]impl.Cmd{
		"NOOP":                                   {Kind: impl.CmdNoop},
		"LOGOUT":                                 {Kind: impl.CmdQuit},
		"EXPUNGE":                                {Kind: impl.CmdExpunge},
		"FETCH 1 UID":                            {Kind: impl.CmdFetch, Set: one, Items: impl.ItemUid},
		"FETCH 1 FLAGS":                          {Kind: impl.CmdFetch, Set: one, Items: impl.ItemFlags},
		"FETCH 1 RFC822.SIZE":                    {Kind: impl.CmdFetch, Set: one, Items: impl.ItemSize},
		"FETCH 1 BODY[]":                         {Kind: impl.CmdFetch, Set: one, Items: impl.ItemBody},
		"FETCH 1 (UID)":                          {Kind: impl.CmdFetch, Set: one, Items: impl.ItemUid},
		"FETCH 1 (BODY[] RFC822.SIZE FLAGS UID)": {Kind: impl.CmdFetch, Set: one, Items: 15},
		"FETCH 1 (UID UID UID)":                  {Kind: impl.CmdFetch, Set: one, Items: impl.ItemUid},
		"FETCH 5:*,1 FLAGS":                      {Kind: impl.CmdFetch, Set: setOf(5, 0, 1, 1).List, Items: impl.ItemFlags},
		"UID FETCH 1 BODY[]":                     {Kind: impl.CmdFetch, Uid: true, Set: one, Items: impl.ItemBody},
		"STORE 1 FLAGS ()":                       {Kind: impl.CmdStore, Set: one, Mode: impl.ModeSet},
		"STORE 1 +FLAGS (a)":                     {Kind: impl.CmdStore, Set: one, Mode: impl.ModeAdd, Flags: 32},
		`STORE 1 -FLAGS (\SEEN a)`:               {Kind: impl.CmdStore, Set: one, Mode: impl.ModeDrop, Flags: 40},
		"UID STORE *:7 FLAGS ()":                 {Kind: impl.CmdStore, Uid: true, Set: setOf(0, 7).List, Mode: impl.ModeSet},
	} {
		want.Tag = "t1"
		wantImap(t, line("t1 "+text), want)
		if !strings.Contains(text, "(a)") && !strings.Contains(text, " a)") {
			wantImap(t, line("t1 "+strings.ToLower(text)), want)
		}
		// A body that no literal gave is no one's.
		wantImap(t, impl.Unit{Line: []byte("t1 " + text), Body: []byte("x")}, want)
		bad := impl.Cmd{Tag: "t1"}
		wantImap(t, lineWith("t1 "+text, "body"), bad)
		wantImap(t, lineWith("t1 "+text+" ", "body"), bad)
		for i := range text + " " {
			if i == len(text) || text[i] == ' ' {
				wantImap(t, line("t1 "+text[:i]+" "+text[i:]), bad)
				wantImap(t, line("t1 "+text[:i]+"\t"+text[i:]), bad)
			}
			if i < len(text) && text[i] == ' ' {
				wantImap(t, line("t1 "+text[:i]), plainImap(line("t1 "+text[:i])))
				wantImap(t, line("t1 "+text[:i+1]), bad)
				wantImap(t, line("t1 "+text[:i]+text[i+1:]), bad)
			}
		}
		for _, more := range []string{" x", "x", " UID", ")", "\r", "\n", "\x00"} {
			wantImap(t, line("t1 "+text+more), bad)
		}
	}
}

func TestImapLinesThatAreBad(t *testing.T) {
	for _, text := range []string{
		"", "UID", "UID ", "UID NOOP", "UID LOGOUT", "UID EXPUNGE", "UID UID FETCH 1 UID", "UID APPEND ", "UIDFETCH 1 UID", "QUIT", "STAT", "LIST", "APPEND", "APPEND ", "APPEND () ",
		"FETCH", "FETCH 1", "FETCH 1 ", "FETCH UID", "FETCH 0 UID", "FETCH 1,,2 UID", "FETCH 1 ALL", "FETCH 1 ()", "FETCH 1 ( UID)", "FETCH 1 (UID )", "FETCH 1 (UID  FLAGS)", "FETCH 1 UID FLAGS", "FETCH 1 (UID", "FETCH 1 UID)", "FETCH 1 ((UID))", "FETCH 1 (UID,FLAGS)", "FETCH 1 BODY", "FETCH 1 BODY[1]", "FETCH 1 RFC822", "FETCH 1: UID", "FETCH 1 2 UID", "FETCH 1 (UID) ", "FETCH 1 (UID)(FLAGS)",
		"STORE", "STORE 1", "STORE 1 FLAGS", "STORE 1 FLAGS ", "STORE 1 ()", "STORE 1 FLAGS a", "STORE 1 *FLAGS ()", "STORE 1 ++FLAGS ()", "STORE 1 + FLAGS ()", "STORE 1 FLAGS.SILENT ()", "STORE 0 FLAGS ()", "STORE FLAGS ()", "STORE 1 FLAGS (A)", "STORE 1 FLAGS() ", "STORE 1 FLAGS () ()", "STORE 1 FLAG ()",
		"EXPUNGE 1", "NOOP NOOP", "LOGOUT x", "noop\u212a", "EXPUN\u0120E", "FETCH 1 FLAG\u017f", "\u017fTORE 1 FLAGS ()", "{3}", "NOOP {3}",
		"FETCH " + strings.Repeat("1,", impl.MaxSet) + "1 UID",
	} {
		wantImap(t, line("x "+text), impl.Cmd{Tag: "x"})
		if !strings.HasPrefix(text, "APPEND ") {
			wantImap(t, lineWith("x "+text, "body"), impl.Cmd{Tag: "x"})
		}
	}
	most := strings.Repeat("1,", impl.MaxSet-1) + "1"
	if got := impl.ParseImap(line("x FETCH " + most + " UID")); len(got.Set) != impl.MaxSet {
		t.Error(tellCmd(got))
	}
}

func TestAppends(t *testing.T) {
	body := "From x\r\n\x00"
	for text, flags := range map[string]uint32{"APPEND ": 0, "append ": 0, "Append () ": 0, `APPEND (\Seen) `: 8, `APPEND (a b \DELETED a) `: 100} {
		wantImap(t, lineWith("t "+text, body), impl.Cmd{Kind: impl.CmdAppend, Tag: "t", Flags: flags, Body: []byte(body)})
		wantImap(t, lineWith("t "+text, ""), impl.Cmd{Kind: impl.CmdAppend, Tag: "t", Flags: flags})
		wantImap(t, line("t "+text), impl.Cmd{Tag: "t"})
		wantImap(t, line("t "+strings.TrimSuffix(text, " ")), impl.Cmd{Tag: "t"})
		for _, wrong := range []string{strings.TrimSuffix(text, " "), text + " ", " " + text, strings.Replace(text, " ", "  ", 1), text + "x", text + "() ", text + "x "} {
			if wrong != "APPEND () " && wrong != "append () " {
				wantImap(t, lineWith("t "+wrong, body), impl.Cmd{Tag: "t"})
			}
		}
	}
	for _, wrong := range []string{"APPEND (A) ", "APPEND a ", "APPEND ( ", "APPEND ) ", "APPEND INBOX ", "APPEND () () ", "APPENDS ", "APPEN ", "APPEND() ", "UID APPEND ", "APPEND\t"} {
		wantImap(t, lineWith("t "+wrong, body), impl.Cmd{Tag: "t"})
	}
	full := strings.Repeat("x", impl.MaxBody)
	if got := impl.ParseImap(lineWith("t APPEND ", full)); string(got.Body) != full {
		t.Error("a body of", len(got.Body), "bytes")
	}
}

// anyLine is a command with a few things turned.
func anyLine(r *rand.Rand, good []string) string {
	text := []byte(good[r.Intn(len(good))])
	signs := " ()*:,\\abAZ019+-[]{}.\r\n\x00\xc5\xbf"
	for range r.Intn(3) {
		at := r.Intn(len(text) + 1)
		switch sign := signs[r.Intn(len(signs))]; {
		case r.Intn(3) == 0:
			text = append(text[:at:at], append([]byte{sign}, text[at:]...)...)
		case at == len(text):
		case r.Intn(2) == 0:
			text = append(text[:at:at], text[at+1:]...)
		case 'A' <= text[at] && text[at] <= 'z':
			text[at] ^= 32
		default:
			text[at] = sign
		}
	}
	return string(text)
}

// Chapter 6 on lines that are nearly commands, as the second telling has them.
func TestLinesNearCommands(t *testing.T) {
	imap := []string{"a NOOP", "b LOGOUT", "c1 EXPUNGE", "d FETCH 1:* (UID FLAGS)", "e FETCH 2,*,4:1 BODY[]", "f UID FETCH 7 RFC822.SIZE", "g STORE 1 +FLAGS (\\Seen)", "h UID STORE *:2 FLAGS (a \\Draft z)", "i STORE 1 -flags ()", "j APPEND ", "k APPEND (\\Deleted b) ", "abcdefghij0123456789 UID FETCH 1 (BODY[] UID)"}
	pop := []string{"NOOP", "QUIT", "STAT", "RSET", "LIST", "LIST 1", "UIDL", "UIDL 20", "RETR 1", "DELE 4294967295", "RETR 4294967296"}
	r := rand.New(rand.NewSource(6))
	good, bad := 0, 0
	for range 60000 {
		text := anyLine(r, pop)
		if got, want := impl.ParsePop([]byte(text)), plainPop(text); tellCmd(got) != tellCmd(want) {
			t.Fatalf("%q: %s, want %s", text, tellCmd(got), tellCmd(want))
		}
		u := line(anyLine(r, imap))
		if strings.Contains(strings.ToUpper(string(u.Line)), "APPEND") || r.Intn(10) == 0 {
			u.Has, u.Body = true, []byte("body")
		}
		u.Bad = r.Intn(50) == 0
		got, want := impl.ParseImap(u), plainImap(u)
		if tellCmd(got) != tellCmd(want) {
			t.Fatalf("%s: %s, want %s", tellUnit(u), tellCmd(got), tellCmd(want))
		}
		if got.Kind == impl.CmdBad {
			bad++
		} else {
			good++
		}
	}
	if good < 10000 || bad < 10000 {
		t.Fatal("the lines ask too little:", good, "good,", bad, "bad")
	}
}

func TestParsingKeepsToItself(t *testing.T) {
	u := lineWith("a APPEND (b) ", "body")
	kept := tellUnit(u)
	got := impl.ParseImap(u)
	scribbleBytes(got.Body)
	if tellUnit(u) != kept {
		t.Errorf("a command shares memory with its unit: %s", tellUnit(u))
	}
	text := []byte("LIST 7")
	impl.ParsePop(text)
	if !bytes.Equal(text, []byte("LIST 7")) {
		t.Errorf("a line is written to: %q", text)
	}
	for i := range 3 {
		first, second := impl.ReadSet("1,2:3,*"), impl.ReadSet("1,2:3,*")
		first.List[i] = impl.Pair{From: 9, To: 9}
		if fmt.Sprint(second) != fmt.Sprint(impl.ReadSet("1,2:3,*")) {
			t.Error("two sets share memory")
		}
	}
}
