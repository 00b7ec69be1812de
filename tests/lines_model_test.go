package tests

import (
	"fmt"
	"regexp"
	"strconv"
	"strings"

	"loop.example/s02349/impl"
)

// A second telling of Chapter 6 by patterns.

// eitherCase is a pattern of a word in small or capital letters, ASCII alone
// (a pattern's own sign for that takes other letters, too).
func eitherCase(word string) string {
	var b strings.Builder
	for _, letter := range word {
		low, high := strings.ToLower(string(letter)), strings.ToUpper(string(letter))
		if low == high {
			b.WriteString(regexp.QuoteMeta(low))
		} else {
			b.WriteString("[" + low + high + "]")
		}
	}
	return b.String()
}

func eitherWord(words ...string) string {
	for i := range words {
		words[i] = eitherCase(words[i])
	}
	return "(" + strings.Join(words, "|") + ")"
}

const (
	placePattern = `(\*|[1-9][0-9]{0,9})`
	partPattern  = placePattern + `(:` + placePattern + `)?`
)

var (
	literalPattern = regexp.MustCompile(`(?s)^(.*)\{(0|[1-9][0-9]{0,8})\}$`)
	setPattern     = regexp.MustCompile(`^` + partPattern + `(,` + partPattern + `)*$`)
	flagPattern    = `(` + eitherWord(`\Answered`, `\Flagged`, `\Deleted`, `\Seen`, `\Draft`) + `|[a-z])`
	listPattern    = `(\((` + flagPattern + `( ` + flagPattern + `)*)?\))`
	wholeList      = regexp.MustCompile(`^` + listPattern + `$`)
	popAlone       = regexp.MustCompile(`^` + eitherWord("NOOP", "QUIT", "STAT", "RSET", "LIST", "UIDL") + `$`)
	popNumbered    = regexp.MustCompile(`^` + eitherWord("RETR", "DELE", "LIST", "UIDL") + ` ([1-9][0-9]{0,9})$`)
	tagPattern     = regexp.MustCompile(`(?s)^([A-Za-z0-9]{1,20}) (.*)$`)
	imapAlone      = regexp.MustCompile(`^` + eitherWord("NOOP", "LOGOUT", "EXPUNGE") + `$`)
	itemPattern    = eitherWord("UID", "FLAGS", "RFC822.SIZE", "BODY[]")
	fetchPattern   = regexp.MustCompile(`^(` + eitherCase("UID ") + `)?` + eitherCase("FETCH") + ` ([^ ]+) (` + itemPattern + `|\(` + itemPattern + `( ` + itemPattern + `)*\))$`)
	storePattern   = regexp.MustCompile(`^(` + eitherCase("UID ") + `)?` + eitherCase("STORE") + ` ([^ ]+) ` + eitherWord("FLAGS", "+FLAGS", "-FLAGS") + ` ` + listPattern + `$`)
	appendPattern  = regexp.MustCompile(`^` + eitherCase("APPEND") + ` (` + listPattern + ` )?$`)
)

func plainCut(literals bool, stream string) impl.Units {
	var units impl.Units
	for {
		line, behind, found := strings.Cut(stream, "\r\n")
		if !found {
			break
		}
		m := literalPattern.FindStringSubmatch(line)
		if len(line) > 300 {
			units.List = append(units.List, impl.Unit{Bad: true})
			stream = behind
			continue
		}
		if !literals || m == nil {
			units.List = append(units.List, impl.Unit{Line: []byte(line)})
			stream = behind
			continue
		}
		size, _ := strconv.Atoi(m[2])
		if size > 8000 {
			units.List = append(units.List, impl.Unit{Bad: true})
			stream = behind
			continue
		}
		if size+2 > len(behind) {
			break
		}
		if behind[size:size+2] != "\r\n" {
			units.List = append(units.List, impl.Unit{Bad: true})
			stream = behind[size:]
			continue
		}
		units.List = append(units.List, impl.Unit{Line: []byte(m[1]), Body: []byte(behind[:size]), Has: true})
		stream = behind[size+2:]
	}
	units.Rest = []byte(stream)
	return units
}

func plainPlace(text string) (uint32, bool) {
	if text == "*" {
		return 0, true
	}
	n, err := strconv.ParseUint(text, 10, 32)
	return uint32(n), err == nil
}

func plainSet(text string) impl.Set {
	parts := strings.Split(text, ",")
	if !setPattern.MatchString(text) || len(parts) > 50 {
		return impl.Set{}
	}
	set := impl.Set{Ok: true}
	for _, part := range parts {
		places := strings.Split(part, ":")
		from, good := plainPlace(places[0])
		to, goodTo := plainPlace(places[len(places)-1])
		if !good || !goodTo {
			return impl.Set{}
		}
		set.List = append(set.List, impl.Pair{From: from, To: to})
	}
	return set
}

func plainFlags(text string) impl.Flags {
	if !wholeList.MatchString(text) {
		return impl.Flags{}
	}
	flags := impl.Flags{Ok: true}
	for _, name := range strings.Fields(strings.Trim(text, "()")) {
		switch strings.ToUpper(name) {
		case `\ANSWERED`:
			flags.Flags |= 1
		case `\FLAGGED`:
			flags.Flags |= 2
		case `\DELETED`:
			flags.Flags |= 4
		case `\SEEN`:
			flags.Flags |= 8
		case `\DRAFT`:
			flags.Flags |= 16
		default:
			flags.Flags |= 1 << (name[0] - 'a' + 5)
		}
	}
	return flags
}

var commandKinds = map[string]int{
	"NOOP": impl.CmdNoop, "QUIT": impl.CmdQuit, "STAT": impl.CmdStat, "LIST": impl.CmdList, "UIDL": impl.CmdUidl, "RETR": impl.CmdRetr,
	"DELE": impl.CmdDele, "RSET": impl.CmdRset, "LOGOUT": impl.CmdQuit, "EXPUNGE": impl.CmdExpunge,
}

func plainPop(line string) impl.Cmd {
	if m := popAlone.FindStringSubmatch(line); m != nil {
		return impl.Cmd{Kind: commandKinds[strings.ToUpper(m[1])]}
	}
	m := popNumbered.FindStringSubmatch(line)
	if m == nil {
		return impl.Cmd{}
	}
	n, err := strconv.ParseUint(m[2], 10, 32)
	if err != nil {
		return impl.Cmd{}
	}
	return impl.Cmd{Kind: commandKinds[strings.ToUpper(m[1])], N: uint32(n)}
}

func plainImap(u impl.Unit) impl.Cmd {
	m := tagPattern.FindStringSubmatch(string(u.Line))
	if u.Bad || len(u.Line) > 300 || m == nil {
		return impl.Cmd{Tag: "*"}
	}
	var c impl.Cmd
	if u.Has {
		c = plainAppend(m[2], u.Body)
	} else {
		c = plainCommand(m[2])
	}
	c.Tag = m[1]
	return c
}

func plainAppend(text string, body []byte) impl.Cmd {
	m := appendPattern.FindStringSubmatch(text)
	if m == nil {
		return impl.Cmd{}
	}
	return impl.Cmd{Kind: impl.CmdAppend, Flags: plainFlags(m[2]).Flags, Body: body}
}

func plainCommand(text string) impl.Cmd {
	if m := imapAlone.FindStringSubmatch(text); m != nil {
		return impl.Cmd{Kind: commandKinds[strings.ToUpper(m[1])]}
	}
	if m := fetchPattern.FindStringSubmatch(text); m != nil {
		set := plainSet(m[2])
		if !set.Ok {
			return impl.Cmd{}
		}
		c := impl.Cmd{Kind: impl.CmdFetch, Uid: m[1] != "", Set: set.List}
		for _, item := range strings.Fields(strings.Trim(m[3], "()")) {
			c.Items |= map[string]int{"UID": 1, "FLAGS": 2, "RFC822.SIZE": 4, "BODY[]": 8}[strings.ToUpper(item)]
		}
		return c
	}
	if m := storePattern.FindStringSubmatch(text); m != nil {
		set := plainSet(m[2])
		if !set.Ok {
			return impl.Cmd{}
		}
		mode := map[byte]int{'F': impl.ModeSet, 'f': impl.ModeSet, '+': impl.ModeAdd, '-': impl.ModeDrop}[m[3][0]]
		return impl.Cmd{Kind: impl.CmdStore, Uid: m[1] != "", Set: set.List, Mode: mode, Flags: plainFlags(m[4]).Flags}
	}
	return impl.Cmd{}
}

func tellUnit(u impl.Unit) string {
	return fmt.Sprintf("line %q body %q has %v bad %v", u.Line, u.Body, u.Has, u.Bad)
}

func tellUnits(u impl.Units) string {
	var b strings.Builder
	for _, unit := range u.List {
		b.WriteString(tellUnit(unit) + "\n")
	}
	fmt.Fprintf(&b, "rest %q", u.Rest)
	return b.String()
}

func tellCmd(c impl.Cmd) string {
	return fmt.Sprintf("kind %d tag %q n %d uid %v set %v items %d mode %d flags %d body %q", c.Kind, c.Tag, c.N, c.Uid, c.Set, c.Items, c.Mode, c.Flags, c.Body)
}
