package tests

import (
	"bytes"
	"fmt"
	"math/rand"
	"strings"
	"testing"

	"loop.example/s02349/impl"
)

// streamPieces make lines, literals that are whole, too long, not ended or
// none, and what looks like them.
var streamPieces = []string{"\r\n", "\r", "\n", "a", "{", "}", "0", "{0}\r\n", "{1}\r\n", "x {3}\r\nab", "{2}"}

func wantUnits(t *testing.T, literals bool, stream string, want impl.Units) {
	t.Helper()
	if got := impl.Cut(literals, []byte(stream)); tellUnits(got) != tellUnits(want) {
		t.Fatalf("%v %.200q\n%.2000s\nwant\n%.2000s", literals, stream, tellUnits(got), tellUnits(want))
	}
}

// Promise 13, of a stream in two pieces, cut at each place.
func wantPieces(t *testing.T, literals bool, stream string) {
	t.Helper()
	whole := impl.Cut(literals, []byte(stream))
	for at := range len(stream) + 1 {
		wantTwoPieces(t, literals, stream, at, whole)
	}
}

func wantTwoPieces(t *testing.T, literals bool, stream string, at int, whole impl.Units) {
	t.Helper()
	first := impl.Cut(literals, []byte(stream[:at]))
	second := impl.Cut(literals, append(bytes.Clone(first.Rest), stream[at:]...))
	both := impl.Units{List: append(first.List, second.List...), Rest: second.Rest}
	if tellUnits(both) != tellUnits(whole) {
		t.Fatalf("%v %.200q at %d\n%.2000s\nwant\n%.2000s", literals, stream, at, tellUnits(both), tellUnits(whole))
	}
}

func TestCutsOfAllShortStreams(t *testing.T) {
	eachTextOf(streamPieces, 4, func(stream string) {
		for _, literals := range []bool{false, true} {
			wantUnits(t, literals, stream, plainCut(literals, stream))
			wantPieces(t, literals, stream)
		}
	})
}

func anyStream(r *rand.Rand) string {
	var b strings.Builder
	for range r.Intn(12) {
		switch r.Intn(8) {
		case 0:
			b.WriteString(strings.Repeat("y", 290+r.Intn(20)) + "\r\n")
		case 1:
			size := r.Intn(30)
			fmt.Fprintf(&b, "t APPEND {%d}\r\n%s", size, strings.Repeat("\r\n{", 10)[:size])
		default:
			b.WriteString(streamPieces[r.Intn(len(streamPieces))])
		}
	}
	return b.String()
}

func TestCutsOfLongStreams(t *testing.T) {
	for seed := range int64(400) {
		r := rand.New(rand.NewSource(seed))
		stream := anyStream(r)
		for _, literals := range []bool{false, true} {
			whole := plainCut(literals, stream)
			wantUnits(t, literals, stream, whole)
			for range 20 {
				wantTwoPieces(t, literals, stream, r.Intn(len(stream)+1), whole)
			}
		}
	}
}

func line(text string) impl.Unit { return impl.Unit{Line: []byte(text)} }

func lineWith(text, body string) impl.Unit {
	return impl.Unit{Line: []byte(text), Body: []byte(body), Has: true}
}

func unitsOf(rest string, list ...impl.Unit) impl.Units {
	return impl.Units{List: list, Rest: []byte(rest)}
}

func TestCutsOfLines(t *testing.T) {
	full := strings.Repeat("x", impl.MaxLine)
	bad := impl.Unit{Bad: true}
	for _, literals := range []bool{false, true} {
		for _, row := range []struct {
			stream string
			want   impl.Units
		}{
			{"", unitsOf("")},
			{"a", unitsOf("a")},
			{"a\r", unitsOf("a\r")},
			{"a\n", unitsOf("a\n")},
			{"a\n\r", unitsOf("a\n\r")},
			{"\r\n", unitsOf("", line(""))},
			{"\r\n\r\n", unitsOf("", line(""), line(""))},
			{"\r\r\n", unitsOf("", line("\r"))},
			{"a\rb\nc\r\nd", unitsOf("d", line("a\rb\nc"))},
			{"a\x00\xff\r\n", unitsOf("", line("a\x00\xff"))},
			{full + "\r\n", unitsOf("", line(full))},
			{full + "x\r\nb\r\n", unitsOf("", bad, line("b"))},
			{full + full + full, unitsOf(full + full + full)},
			{full + full + full + "\r\n\r\n", unitsOf("", bad, line(""))},
			// Too long for a line, whatever it announces.
			{full + "{3}\r\nabc\r\n", unitsOf("", bad, line("abc"))},
		} {
			wantUnits(t, literals, row.stream, row.want)
			wantPieces(t, literals, row.stream)
		}
	}
}

func TestCutsOfLiterals(t *testing.T) {
	full := strings.Repeat("\r\n", impl.MaxBody/2)
	tall := strings.Repeat("x", impl.MaxLine-3)
	bad := impl.Unit{Bad: true}
	for _, row := range []struct {
		stream string
		want   impl.Units
	}{
		{"a {0}\r\n\r\n", unitsOf("", lineWith("a ", ""))},
		{"{0}\r\n\r\n", unitsOf("", lineWith("", ""))},
		{"a{3}\r\nabc\r\nb", unitsOf("b", lineWith("a", "abc"))},
		{"a {2}\r\n\r\n\r\n", unitsOf("", lineWith("a ", "\r\n"))},
		{"a {2} {3}\r\nabc\r\n", unitsOf("", lineWith("a {2} ", "abc"))},
		{"a {{3}\r\nabc\r\n", unitsOf("", lineWith("a {", "abc"))},
		{tall + "{3}\r\nabc\r\n", unitsOf("", lineWith(tall, "abc"))},
		{"a {8000}\r\n" + full + "\r\n", unitsOf("", lineWith("a ", full))},
		// Not there yet: all from the line's beginning on.
		{"b\r\na {3}\r\n", unitsOf("a {3}\r\n", line("b"))},
		{"a {3}\r\nab", unitsOf("a {3}\r\nab")},
		{"a {3}\r\nabc", unitsOf("a {3}\r\nabc")},
		{"a {3}\r\nabc\r", unitsOf("a {3}\r\nabc\r")},
		{"a {3}\r\nabcx", unitsOf("a {3}\r\nabcx")},
		{"a {3}\r\n\r\n\r", unitsOf("a {3}\r\n\r\n\r")},
		{"a {0}\r\n", unitsOf("a {0}\r\n")},
		{"a {8000}\r\n" + full + "\r", unitsOf("a {8000}\r\n" + full + "\r")},
		// Other bytes behind it: on just behind the literal.
		{"a {3}\r\nabcde", unitsOf("de", bad)},
		{"a {3}\r\nabc\r\r\nd", unitsOf("d", bad, line("\r"))},
		{"a {0}\r\nxy\r\n", unitsOf("", bad, line("xy"))},
		{"a {3}\r\nabc \r\nb\r\n", unitsOf("", bad, line(" "), line("b"))},
		// Too many bytes: on behind the line.
		{"a {8001}\r\nb\r\n", unitsOf("", bad, line("b"))},
		{"a {999999999}\r\nb\r\n", unitsOf("", bad, line("b"))},
		// No literal at all.
		{"a {1000000000}\r\nb\r\n", unitsOf("", line("a {1000000000}"), line("b"))},
		{"a {4294967299}\r\nabc\r\n", unitsOf("", line("a {4294967299}"), line("abc"))},
		{"a {18446744073709551619}\r\nabc\r\n", unitsOf("", line("a {18446744073709551619}"), line("abc"))},
		{"a {03}\r\nabc\r\n", unitsOf("", line("a {03}"), line("abc"))},
		{"a {00}\r\n\r\n", unitsOf("", line("a {00}"), line(""))},
		{"a {000000003}\r\nabc\r\n", unitsOf("", line("a {000000003}"), line("abc"))},
		{"a {+3}\r\nabc\r\n", unitsOf("", line("a {+3}"), line("abc"))},
		{"a {-3}\r\nabc\r\n", unitsOf("", line("a {-3}"), line("abc"))},
		{"a {3 }\r\nabc\r\n", unitsOf("", line("a {3 }"), line("abc"))},
		{"a {1_0}\r\nabc\r\n", unitsOf("", line("a {1_0}"), line("abc"))},
		{"a {0x3}\r\nabc\r\n", unitsOf("", line("a {0x3}"), line("abc"))},
		{"a {}\r\nabc\r\n", unitsOf("", line("a {}"), line("abc"))},
		{"a {3} \r\nabc\r\n", unitsOf("", line("a {3} "), line("abc"))},
		{"a {3}}\r\nabc\r\n", unitsOf("", line("a {3}}"), line("abc"))},
		{"a 3}\r\nabc\r\n", unitsOf("", line("a 3}"), line("abc"))},
		{"a {3\r\nabc\r\n", unitsOf("", line("a {3"), line("abc"))},
		{"a }3{\r\nabc\r\n", unitsOf("", line("a }3{"), line("abc"))},
	} {
		wantUnits(t, true, row.stream, row.want)
		if len(row.stream) < 1000 {
			wantPieces(t, true, row.stream)
		}
		wantUnits(t, false, row.stream, plainCut(false, row.stream))
		for _, u := range impl.Cut(false, []byte(row.stream)).List {
			if u.Has || len(u.Body) != 0 {
				t.Errorf("a literal of %q where there are none: %s", row.stream, tellUnit(u))
			}
		}
	}
	for _, at := range []int{0, 1, 9, 10, 11, 4000, 8009, 8010, 8011, 8012} {
		stream := "a {8000}\r\n" + full + "\r\n"
		wantTwoPieces(t, true, stream, at, impl.Cut(true, []byte(stream)))
	}
}

func TestCutKeepsToItself(t *testing.T) {
	stream := []byte("a\r\nb {3}\r\nabc\r\nrest")
	kept := bytes.Clone(stream)
	got := impl.Cut(true, stream)
	want := tellUnits(got)
	for i := range got.List {
		other := impl.Cut(true, stream)
		scribbleBytes(other.List[i].Line)
		scribbleBytes(other.List[i].Body)
		scribbleBytes(other.Rest)
		for j, u := range other.List {
			if j != i && tellUnit(u) != tellUnit(got.List[j]) {
				t.Error("two units share memory")
			}
		}
	}
	if !bytes.Equal(stream, kept) {
		t.Errorf("the stream is written to: %q", stream)
	}
	scribbleBytes(stream)
	if tellUnits(got) != want {
		t.Error("an answer shares memory with the stream")
	}
}
