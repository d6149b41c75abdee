package header_test

import (
	"regexp"
	"slices"
	"strings"
	"testing"

	"estafette/api"
	"estafette/header"
)

// texts calls f with each text of at most so many of the letters.
func texts(letters []string, most int, f func(s string)) {
	var extend func(s string, more int)
	extend = func(s string, more int) {
		f(s)
		for _, c := range letters {
			if more > 0 {
				extend(s+c, more-1)
			}
		}
	}
	extend("", most)
}

// dice throws the same numbers in each run.
type dice uint64

func (d *dice) throw(n int) int {
	*d = *d*6364136223846793005 + 1442695040888963407
	return int(uint64(*d) >> 33 % uint64(n))
}

func (d *dice) some(least, most int, f func() string) string {
	s := ""
	for range least + d.throw(most-least+1) {
		s += f()
	}
	return s
}

func (d *dice) one(of ...string) string { return of[d.throw(len(of))] }

// The chapter's forms taken word by word.
const (
	tokenForm  = "[!#$%&'*+\\-.0-9A-Z^_\\x60a-z{|}~]+"
	quotedForm = `"(?:[^"\\]|\\.)*"`
	blanksForm = "[ \\t]*"
	paramForm  = ";" + blanksForm + "(" + tokenForm + ")" + blanksForm + "=" + blanksForm + "(" + tokenForm + "|" + quotedForm + ")" + blanksForm
)

var (
	fieldText = regexp.MustCompile(`(?s)\A([!-9;-~]+):(.*)\z`)
	typeText  = regexp.MustCompile(`(?s)\A` + blanksForm + "(" + tokenForm + ")" + blanksForm + "/" + blanksForm + "(" + tokenForm + ")" + blanksForm + "((?:" + paramForm + ")*)" + `\z`)
	paramText = regexp.MustCompile("(?s)" + paramForm)
	escaped   = regexp.MustCompile(`(?s)\\(.)`)
	boundText = regexp.MustCompile(`\A[ -~]{0,69}[!-~]\z`)
)

// parsed is what Parse is to find: it goes through the lines, and strips the fields when all of them are there.
func parsed(s string) ([]api.Field, int) {
	var l []api.Field
	at := 0
	for _, line := range strings.SplitAfter(s, "\r\n") {
		content := strings.TrimSuffix(line, "\r\n")
		if m := fieldText.FindStringSubmatch(content); m != nil {
			l = append(l, api.Field{Name: m[1], Value: m[2]})
		} else if len(l) > 0 && (strings.HasPrefix(line, " ") || strings.HasPrefix(line, "\t")) {
			l[len(l)-1].Value += content
		} else {
			if line == "\r\n" {
				at += 2
			}
			break
		}
		at += len(line)
	}
	l = l[:min(len(l), 64)]
	for i := range l {
		l[i].Value = strings.Trim(l[i].Value, " \t")
	}
	return l, at
}

// asModel holds Parse against the model, and returns how many fields there are.
func asModel(t *testing.T, s string) int {
	t.Helper()
	want, end := parsed(s)
	l, n := header.Parse([]byte(s))
	if !slices.Equal(l, want) || n != end {
		t.Fatalf("Parse(%q): %q, %d; want %q, %d", s, l, n, want, end)
	}
	return len(l)
}

func TestP10_1ShortTexts(t *testing.T) {
	var some [4]int
	count := func(s string) { some[min(3, asModel(t, s))]++ }
	texts([]string{"A", ":", " ", "\t", "\r\n", "\r", "\n"}, 6, count)
	texts([]string{"A:", " ", "\r\n", "\r", "b"}, 8, count)
	if slices.Contains(some[:], 0) {
		t.Error(some)
	}
}

func TestP10_1ManyLines(t *testing.T) {
	d := dice(101)
	for range 20000 {
		asModel(t, d.some(0, 90, func() string {
			return d.one("A", "Bc", "x-y!", "A", "Bc", "x-y!", "A", " ", "\t", " d") + d.one(":", ": ", ":\t", ": e", ":") + d.one("", "f", " g ", "h\ti", "\xff", "é", "\r", "\n", ":", "\x00") + "\r\n" + d.one("", "", "", " j\r\n", "\tk \r\n", " \r\n") + d.one(strings.Repeat("\n", d.throw(20)/19), "", "")
		})+d.one("", "\r\n", "x", "\r", " l", "A:", ":", "\n"))
	}
}

// meant is what a value of a parameter stands for.
func meant(value string) string {
	if value[0] != '"' {
		return value
	}
	return escaped.ReplaceAllString(value[1:len(value)-1], "$1")
}

// kindMeant is what Kind is to find.
func kindMeant(value string) [3]string {
	m := typeText.FindStringSubmatch(value)
	if m == nil {
		return [3]string{"TEXT", "PLAIN", ""}
	}
	want := [3]string{strings.ToUpper(m[1]), strings.ToUpper(m[2]), ""}
	for _, p := range paramText.FindAllStringSubmatch(m[3], -1) {
		if strings.EqualFold(p[1], "boundary") {
			want[2] = boundText.FindString(meant(p[2]))
			break
		}
	}
	return want
}

// kindAsModel holds Kind against the model, and tells whether there is a boundary.
func kindAsModel(t *testing.T, value string) bool {
	t.Helper()
	want := kindMeant(value)
	k, s, b := header.Kind(fields("Content-Type", value))
	if [3]string{k, s, b} != want {
		t.Fatalf("Kind(%q): %q, %q, %q; want %q", value, k, s, b, want)
	}
	return b != ""
}

func TestP10_4ShortTexts(t *testing.T) {
	found := 0
	count := func(s string) {
		if kindAsModel(t, s) {
			found++
		}
	}
	texts([]string{"a", "/", ";", "=", `"`, `\`, " "}, 6, count)
	texts([]string{"boundary", ";", "=", "x", `"`, `\`, " "}, 6, func(s string) { count("a/b" + s) })
	texts([]string{";", "x", `"`, `\`, " ", "\t", "\r", "="}, 6, func(s string) { count("a/b;boundary=" + s) })
	if found < 1000 {
		t.Error(found)
	}
}

func (d *dice) value() string {
	if d.throw(2) == 0 {
		return d.some(1, 3, func() string { return d.one("x", "Y", "9", "-", "'", "~") })
	}
	return `"` + d.some(0, 5, func() string {
		return d.one("x", "Y", " ", `\"`, `\\`, `\x`, ";", "=", "/", ",", "\t", "\x7f", "é", "\xff", strings.Repeat("z", 33))
	}) + `"`
}

func (d *dice) blanks() string { return d.one("", "", " ", "\t", "  ") }

// contentType makes a field's value, which mostly has the form, but for a byte that is put in or left out.
func (d *dice) contentType() string {
	s := d.blanks() + d.one("a", "Text", "multipart") + d.blanks() + "/" + d.blanks() + d.one("b", "Mixed") + d.blanks() + d.some(0, 4, func() string {
		return ";" + d.blanks() + d.one("boundary", "Boundary", "BOUNDARY", "charset", "x", "boundary2") + d.blanks() + "=" + d.blanks() + d.value() + d.blanks()
	})
	at := d.throw(len(s))
	switch d.throw(4) {
	case 0:
		return s[:at] + s[at+1:]
	case 1:
		return s[:at] + d.one(" ", "\t", `"`, `\`, ";", "=", "/", "x", ",", "\r", "\n", "\x00", "\xff") + s[at:]
	}
	return s
}

func TestP10_4ManyValues(t *testing.T) {
	d := dice(104)
	found := 0
	for range 100000 {
		if kindAsModel(t, d.contentType()) {
			found++
		}
	}
	if found < 10000 {
		t.Error(found)
	}
}

// TestP10_6BackAndForth has fields as they are written, and holds what is parsed against them.
func TestP10_6BackAndForth(t *testing.T) {
	d := dice(106)
	anyByte := func(least, most int) string { return string([]byte{byte(least + d.throw(most-least+1))}) }
	for range 20000 {
		s, body := "", d.some(0, 3, func() string { return d.one("x", "A: b", " ", "\t", "\r\n", "\n", "\xff") })
		var pairs []string
		for range d.throw(d.throw(65) + 1) {
			name := strings.ReplaceAll(d.some(1, 5, func() string { return anyByte(33, 126) }), ":", ";")
			value := d.some(0, 8, func() string { return d.one(anyByte(0, 255), " ", "\t", ":", "a") })
			value = strings.Trim(strings.ReplaceAll(strings.ReplaceAll(value, "\r", ""), "\n", ""), " \t")
			pairs = append(pairs, name, value)
			s += name + ": " + value + "\r\n"
		}
		parse(t, s+"\r\n"+body, body, pairs...)
	}
}

func TestP10_6MaxFields(t *testing.T) {
	s := ""
	var pairs []string
	for range 64 {
		s += "A: b\r\n"
		pairs = append(pairs, "A", "b")
		parse(t, s+"\r\n", "", pairs...)
	}
	parse(t, s+"A: b\r\n\r\n", "", pairs...)
}
