package tests

import (
	"bytes"
	"math/rand"
	"strings"
	"testing"

	"loop.example/s02349/impl"
)

// pieces make, put together, the texts in which lines, marks and words meet in
// every way.
var pieces = []string{"\n", ">", "From ", "From", " ", "x", "From mail\n", "\x00", "mail\n"}

func eachText(most int, use func(text string)) {
	eachTextOf(pieces, most, use)
}

// eachTextOf calls use with every text of up to most of the pieces.
func eachTextOf(pieces []string, most int, use func(text string)) {
	level := []string{""}
	for n := 0; ; n++ {
		for _, text := range level {
			use(text)
		}
		if n == most {
			return
		}
		var longer []string
		for _, text := range level {
			for _, p := range pieces {
				longer = append(longer, text+p)
			}
		}
		level = longer
	}
}

// plainQuote is a second telling of Quote: line by line.
func plainQuote(body string) string {
	lines := strings.Split(body, "\n")
	for i, line := range lines {
		if strings.HasPrefix(strings.TrimLeft(line, ">"), "From ") {
			lines[i] = ">" + line
		}
	}
	return strings.Join(lines, "\n")
}

func plainUnquote(text string) string {
	lines := strings.Split(text, "\n")
	for i, line := range lines {
		if strings.HasPrefix(line, ">") && strings.HasPrefix(strings.TrimLeft(line, ">"), "From ") {
			lines[i] = line[1:]
		}
	}
	return strings.Join(lines, "\n")
}

func ended(body string) string {
	if body != "" && !strings.HasSuffix(body, "\n") {
		return body + "\n"
	}
	return body
}

// plainSplit is a second telling of MboxSplit: it cuts ahead of each line
// that begins with "From " and holds every piece against the rules.
func plainSplit(text string) impl.Spans {
	if len(text) > impl.MaxFileLen {
		return impl.Spans{}
	}
	var entries []string
	for _, line := range strings.SplitAfter(text, "\n") {
		if strings.HasPrefix(line, "From ") || len(entries) == 0 {
			entries = append(entries, "")
		}
		entries[len(entries)-1] += line
	}
	if text == "" {
		entries = nil
	}
	answer, at := impl.Spans{Ok: true}, 0
	for _, e := range entries {
		inner, headed := strings.CutPrefix(e, "From mail\n")
		if !headed || inner != "\n" && !strings.HasSuffix(inner, "\n\n") {
			return impl.Spans{}
		}
		body := plainUnquote(e[10 : len(e)-1])
		answer.List = append(answer.List, impl.Span{Start: at, End: at + len(e), Body: []byte(body)})
		at += len(e)
	}
	return answer
}

func sameSpans(a, b impl.Spans) bool {
	if a.Ok != b.Ok || len(a.List) != len(b.List) {
		return false
	}
	for i, s := range a.List {
		o := b.List[i]
		if s.Start != o.Start || s.End != o.End || !bytes.Equal(s.Body, o.Body) {
			return false
		}
	}
	return true
}

// mboxOf is a text of entries, made by MboxEntry.
func mboxOf(bodies ...string) string {
	var text []byte
	for _, body := range bodies {
		text = append(text, impl.MboxEntry([]byte(body))...)
	}
	return string(text)
}

// wantBodies holds the split of the entries of bodies against promise 4.
func wantBodies(t *testing.T, bodies ...string) {
	t.Helper()
	text := mboxOf(bodies...)
	got := impl.MboxSplit([]byte(text))
	if !got.Ok || len(got.List) != len(bodies) {
		t.Fatalf("%v and %d entries of %q", got.Ok, len(got.List), bodies)
	}
	at := 0
	for i, s := range got.List {
		end := at + len(mboxOf(bodies[i]))
		if s.Start != at || s.End != end || string(s.Body) != ended(bodies[i]) {
			t.Fatalf("entry %d of %q: %d to %d, %q", i, bodies, s.Start, s.End, s.Body)
		}
		at = end
	}
	if at != len(text) {
		t.Fatal("the last entry ends at", at, "of", len(text))
	}
}

func wantNoSplit(t *testing.T, text string) {
	t.Helper()
	if got := impl.MboxSplit([]byte(text)); got.Ok || len(got.List) != 0 {
		t.Fatalf("%.60q: %v, %d entries", text, got.Ok, len(got.List))
	}
}

func TestQuotedLines(t *testing.T) {
	for body, text := range map[string]string{
		"":                         "",
		"\n":                       "\n",
		"From ":                    ">From ",
		"From":                     "From",
		"From\n":                   "From\n",
		"From\n ":                  "From\n ",
		">From ":                   ">>From ",
		">>>From x":                ">>>>From x",
		">>>>":                     ">>>>",
		">>\nFrom ":                ">>\n>From ",
		">\n>From \n>":             ">\n>>From \n>",
		"From a\nFrom b\nFrom c":   ">From a\n>From b\n>From c",
		"x\n>From y\nz":            "x\n>>From y\nz",
		"x From y\n":               "x From y\n",
		"> From x":                 "> From x",
		">x>From y":                ">x>From y",
		"\rFrom x\r\nFrom y\r\n":   "\rFrom x\r\n>From y\r\n",
		"\x00From \nFrom \x00\xff": "\x00From \n>From \x00\xff",
		"FROM x\nfrom y\nFrom\tz":  "FROM x\nfrom y\nFrom\tz",
	} {
		if got := string(impl.Quote([]byte(body))); got != text {
			t.Errorf("%q is quoted as %q, want %q", body, got, text)
		}
		if got := string(impl.Unquote([]byte(text))); got != body {
			t.Errorf("%q is unquoted as %q, want %q", text, got, body)
		}
	}
}

func TestUnquoteLeavesBareLines(t *testing.T) {
	for text, want := range map[string]string{
		"From x":              "From x",
		"From x\n>From y":     "From x\nFrom y",
		">>From x\n>>>>From ": ">From x\n>>>From ",
		">From":               ">From",
		">":                   ">",
		"> From x\n>\n":       "> From x\n>\n",
	} {
		if got := string(impl.Unquote([]byte(text))); got != want {
			t.Errorf("%q is unquoted as %q, want %q", text, got, want)
		}
	}
}

// Promise 4, its first part.
func TestUnquoteOfQuote(t *testing.T) {
	eachText(5, func(body string) {
		quoted := impl.Quote([]byte(body))
		if string(quoted) != plainQuote(body) {
			t.Fatalf("%q is quoted as %q", body, quoted)
		}
		if got := string(impl.Unquote(quoted)); got != body {
			t.Fatalf("%q comes back as %q", body, got)
		}
		if got := string(impl.Unquote([]byte(body))); got != plainUnquote(body) {
			t.Fatalf("%q is unquoted as %q", body, got)
		}
	})
	for seed := range int64(300) {
		r := rand.New(rand.NewSource(seed))
		body := make([]byte, r.Intn(400))
		r.Read(body)
		for range r.Intn(30) {
			body = append(body, pieces[r.Intn(len(pieces))]...)
		}
		if got := impl.Unquote(impl.Quote(body)); !bytes.Equal(got, body) {
			t.Fatalf("%q comes back as %q", body, got)
		}
	}
}

func TestQuoteOfLongTexts(t *testing.T) {
	for _, line := range []string{"From \n", ">\n", "\n", "x", ">", ">From x\n"} {
		body := strings.Repeat(line, 200000)
		quoted := impl.Quote([]byte(body))
		if string(quoted) != plainQuote(body) {
			t.Fatalf("many %q: %d bytes", line, len(quoted))
		}
		if string(impl.Unquote(quoted)) != body {
			t.Fatalf("many %q do not come back", line)
		}
	}
}

func TestEntryOfABody(t *testing.T) {
	for body, want := range map[string]string{
		"":               "From mail\n\n",
		"\n":             "From mail\n\n\n",
		"\n\n":           "From mail\n\n\n\n",
		"a":              "From mail\na\n\n",
		"a\n":            "From mail\na\n\n",
		"a\n\n":          "From mail\na\n\n\n",
		"From ":          "From mail\n>From \n\n",
		"From mail\n":    "From mail\n>From mail\n\n",
		">From x\nFrom ": "From mail\n>>From x\n>From \n\n",
		"\x00":           "From mail\n\x00\n\n",
		"a\r":            "From mail\na\r\n\n",
	} {
		if got := string(impl.MboxEntry([]byte(body))); got != want {
			t.Errorf("%q: %q, want %q", body, got, want)
		}
	}
}

func TestLongestBodies(t *testing.T) {
	plain := strings.Repeat("x", impl.MaxBody)
	lined := strings.Repeat("y", impl.MaxBody-1) + "\n"
	marked := strings.Repeat("From \n", impl.MaxBody/6) + "z\n"
	if len(marked) != impl.MaxBody {
		t.Fatal(len(marked))
	}
	for body, want := range map[string]int{plain: impl.MaxBody + 12, lined: impl.MaxBody + 11, marked: impl.MaxBody + 11 + impl.MaxBody/6} {
		if got := len(mboxOf(body)); got != want {
			t.Errorf("%.20q: %d bytes, want %d", body, got, want)
		}
		wantBodies(t, body)
		for _, more := range []string{"x", "\n"} {
			if got := impl.MboxEntry([]byte(body + more)); len(got) != 0 {
				t.Errorf("%.20q and one more: %d bytes", body, len(got))
			}
		}
	}
}

// Promise 4, its second part.
func TestSplitOfEntries(t *testing.T) {
	wantBodies(t)
	wantBodies(t, "")
	wantBodies(t, "", "", "")
	wantBodies(t, "\n", "", "\n\n", "a", "a\n", "\n\na")
	wantBodies(t, "From ", "From mail\n", "From mail\n\n", ">From mail", ">", ">\n>>", "From")
	wantBodies(t, "a\nFrom b\nc", "From mail\n\nFrom mail\n\n", "\x00\xff\r\n", " From x")
	var bodies []string
	eachText(3, func(body string) {
		wantBodies(t, body)
		wantBodies(t, body, "", body)
		bodies = append(bodies, body)
	})
	for seed := range int64(300) {
		r := rand.New(rand.NewSource(seed))
		var list []string
		for range r.Intn(40) {
			list = append(list, bodies[r.Intn(len(bodies))])
		}
		wantBodies(t, list...)
	}
}

func TestLongestTexts(t *testing.T) {
	var bodies []string
	for range 4 {
		bodies = append(bodies, strings.Repeat("x", impl.MaxBody))
	}
	left := impl.MaxFileLen - len(mboxOf(bodies...)) - len(mboxOf("y"))
	most := append(bodies, strings.Repeat("y", left+1))
	over := append(bodies, strings.Repeat("y", left+2))
	if len(mboxOf(most...)) != impl.MaxFileLen || len(mboxOf(over...)) != impl.MaxFileLen+1 {
		t.Fatal(len(mboxOf(most...)), len(mboxOf(over...)))
	}
	wantBodies(t, most...)
	wantNoSplit(t, mboxOf(over...))
	wantNoSplit(t, "From mail\n"+strings.Repeat("\n", impl.MaxFileLen))
	if got := impl.MboxSplit([]byte("From mail\n" + strings.Repeat("\n", impl.MaxFileLen-10))); !got.Ok || len(got.List) != 1 || len(got.List[0].Body) != impl.MaxFileLen-11 {
		t.Fatal("an entry above MaxBody is an entry", got.Ok, len(got.List))
	}
}

func TestSplitRefuses(t *testing.T) {
	for _, text := range []string{
		"\n", "x", "x\n", ">", "From", "From ", "From \n", "From mail", "From \n\n", "From mai\n\n",
		"From mail\n",
		"From mail\nx", "From mail\nx\n", "From mail\n\nx", "From mail\n\nx\n", "From mail\n>From x\n",
		"From mail \n\n", "From mail\r\n\n", "from mail\n\n", " From mail\n\n", ">From mail\n\n", "From  mail\n\n", "From mails\n\n",
		"\nFrom mail\n\n", "x\nFrom mail\n\n", ">From mail\nFrom mail\n\n",
		"From mail\n\nFrom mail\n", "From mail\n\nFrom mail\nx\n", "From mail\n\nFrom mail",
		"From mail\n\nFrom me\n\n", "From mail\nx\n\nFrom \n\n", "From me\n\nFrom mail\n\n",
		"From mail\nFrom mail\n\n", "From mail\nx\nFrom mail\n\n", "From mail\nx\n\nFrom mail\ny\nFrom mail\n\n",
		"From mail\nFrom x\n\n\n",
	} {
		wantNoSplit(t, text)
	}
}

func TestSplitOfAnyText(t *testing.T) {
	eachText(5, func(text string) {
		for _, whole := range []string{text, "From mail\n" + text, "From mail\n" + text + "\n"} {
			if got := impl.MboxSplit([]byte(whole)); !sameSpans(got, plainSplit(whole)) {
				t.Fatalf("%q: %v", whole, got)
			}
		}
	})
}

func TestMemoryOfTexts(t *testing.T) {
	const body = "From x\n>From y\nplain\n"
	given := []byte(body)
	quoted, entry, plain := impl.Quote(given), impl.MboxEntry(given), impl.Quote([]byte("plain"))
	unquoted := impl.Unquote(quoted)
	if string(given) != body {
		t.Fatal("an argument is written to")
	}
	scribbleBytes(given)
	if string(quoted) != plainQuote(body) || string(entry) != "From mail\n"+plainQuote(body)+"\n" || string(plain) != "plain" {
		t.Fatal("a text holds memory of its body")
	}
	scribbleBytes(quoted)
	if string(unquoted) != body {
		t.Fatal("a body holds memory of its text")
	}
	for _, f := range []func([]byte) []byte{impl.Quote, impl.Unquote} {
		given := []byte("nothing to quote")
		got := f(given)
		scribbleBytes(given)
		if string(got) != "nothing to quote" {
			t.Fatal("a text that stays as it is is no copy")
		}
	}
}

func TestMemoryOfSpans(t *testing.T) {
	text := []byte(mboxOf("one", "From two", "three"))
	before := string(text)
	got := impl.MboxSplit(text)
	if string(text) != before {
		t.Fatal("an argument is written to")
	}
	scribbleBytes(text)
	scribbleBytes(got.List[0].Body)
	if string(got.List[1].Body) != "From two\n" || string(got.List[2].Body) != "three\n" {
		t.Fatal("bodies share memory", got.List)
	}
}
