package address_test

import (
	"regexp"
	"slices"
	"strings"
	"testing"

	"estafette/address"
	"estafette/api"
)

// texts calls f with each text of at most so many of the letters.
func texts(letters []string, most int, f func(s string)) {
	var extend func(s string, more int)
	extend = func(s string, more int) {
		f(s)
		for _, c := range letters {
			if more > 0 {
				extend(s+c, more-1)
			}
		}
	}
	extend("", most)
}

// dice throws the same numbers in each run.
type dice uint64

func (d *dice) throw(n int) int {
	*d = *d*6364136223846793005 + 1442695040888963407
	return int(uint64(*d) >> 33 % uint64(n))
}

func (d *dice) some(least, most int, f func() string) string {
	s := ""
	for range least + d.throw(most-least+1) {
		s += f()
	}
	return s
}

func (d *dice) one(of ...string) string { return of[d.throw(len(of))] }

// The chapter's forms taken word by word, but for lengths.
const (
	atomForm   = "[A-Za-z0-9!#$%&'*+\\-/=?^_{|}~\\x60]"
	labelForm  = "[A-Za-z0-9](?:[A-Za-z0-9-]*[A-Za-z0-9])?"
	addrForm   = atomForm + "+(?:\\." + atomForm + "+)*@" + labelForm + "(?:\\." + labelForm + ")*"
	plainForm  = "(?:" + atomForm + "|\\.)+"
	quotedForm = `"(?:[^"\\\r\n]|\\[^\r\n])*"`
	wordForm   = "(?:" + plainForm + "|" + quotedForm + ")"
	blanksForm = "[ \\t]*"
)

var (
	addrText    = regexp.MustCompile(`\A` + addrForm + `\z`)
	elementText = regexp.MustCompile(`\A` + blanksForm + "(?:(" + addrForm + ")|((?:" + wordForm + blanksForm + ")+)<(" + addrForm + ")>)" + blanksForm + `(,|\z)`)
	wordText    = regexp.MustCompile(wordForm)
	escaped     = regexp.MustCompile(`(?s)\\(.)`)
)

// parsed is what Parse is to find.
func parsed(s string) (api.Addr, bool) {
	at := strings.Index(s, "@")
	if !addrText.MatchString(s) || at > 64 || len(s)-at-1 > 64 {
		return api.Addr{}, false
	}
	return api.Addr{Local: s[:at], Domain: s[at+1:]}, true
}

// meant is what a word of a phrase stands for.
func meant(word string) string {
	if word[0] != '"' {
		return word
	}
	return escaped.ReplaceAllString(word[1:len(word)-1], "$1")
}

func named(phrase string) string {
	words := wordText.FindAllString(phrase, -1)
	for i, w := range words {
		words[i] = meant(w)
	}
	return strings.Join(words, " ")
}

// listed is what List is to find.
func listed(s string) ([]api.Addr, api.Errno) {
	var l []api.Addr
	for more := true; more; {
		m := elementText.FindStringSubmatch(s)
		if m == nil {
			return nil, api.ErrAddr
		}
		a, ok := parsed(m[1] + m[3])
		if !ok {
			return nil, api.ErrAddr
		}
		a.Name = named(m[2])
		l = append(l, a)
		more, s = m[4] == ",", s[len(m[0]):]
	}
	if len(l) > 16 {
		return nil, api.ErrLong
	}
	return l, api.OK
}

// asModel holds List against the model, and tells whether s is a list.
func asModel(t *testing.T, s string) bool {
	t.Helper()
	want, f := listed(s)
	if l, e := address.List(s); e != f || !slices.Equal(l, want) {
		t.Fatalf("List(%q): %q, %d; want %q, %d", s, l, e, want, f)
	}
	return f == api.OK
}

// asOne holds Parse and Path against the model, and what they find against P9.5; it tells whether s is an address.
func asOne(t *testing.T, s string) bool {
	t.Helper()
	want, ok := parsed(s)
	if !ok {
		noParse(t, s)
		if s != "" {
			noPath(t, "<"+s+">")
		}
		return false
	}
	parse(t, s, want.Local, want.Domain)
	path(t, "<"+s+">", want)
	list(t, s, want)
	return true
}

func TestP9_1And2And5ShortTexts(t *testing.T) {
	good := 0
	texts([]string{"a", "Z", "0", "-", ".", "@", "_", " ", "<"}, 6, func(s string) {
		if asOne(t, s) {
			good++
		}
	})
	if good < 1000 {
		t.Error(good)
	}
}

func TestP9_3ShortTexts(t *testing.T) {
	good := 0
	count := func(s string) {
		if asModel(t, s) {
			good++
		}
	}
	texts([]string{"a", "a@b", ".", ",", "<", ">", `"`, `\`, " "}, 6, count)
	texts([]string{"a", "-", ".", "@", "<", ">", `"`, "\t"}, 6, count)
	texts([]string{"a", "\r", "\n", `"`, `\`, "\xff", "<a@b>"}, 6, count)
	if good < 900 {
		t.Error(good)
	}
}

// TestP9_3ChangedTexts puts each byte to each place of a list: instead of the one there, ahead of it, and for none.
func TestP9_3ChangedTexts(t *testing.T) {
	for _, s := range []string{"a.b@c-d.e", "Ann B. <a@b>, c@d , \"x, \\\"y\" <e@f>", " x\"y\"\"z\"<a@b>\t,c@d", "\"\\\\\"<a@b-c>"} {
		if !asModel(t, s) {
			t.Error(s)
		}
		for i := range s {
			asModel(t, s[:i])
			asModel(t, s[i:])
			asModel(t, s[:i]+s[i+1:])
			for c := range 256 {
				b := string([]byte{byte(c)})
				asModel(t, s[:i]+b+s[i+1:])
				asModel(t, s[:i]+b+s[i:])
				asModel(t, s+b)
			}
		}
	}
}

func (d *dice) address() string {
	atom := func() string { return d.one("a", "Z", "9", "-", "_", "\x60", "bcd") }
	label := func() string { return d.one("a", "Z", "9", "b-c", "d--9") }
	s := d.some(1, 4, atom)
	for range d.throw(3) {
		s += "." + d.some(1, 3, atom)
	}
	s += "@" + d.some(1, 4, label)
	for range d.throw(3) {
		s += "." + d.some(1, 3, label)
	}
	return s
}

func (d *dice) blanks() string { return d.one("", "", "", " ", "\t", "  ") }

func (d *dice) quoted() string {
	return `"` + d.some(0, 5, func() string {
		return d.one("x", " ", ",", "<", ">", "@", ".", `\"`, `\\`, `\x`, `\,`, "\xff", "é", "\t")
	}) + `"`
}

// element returns an element, and the name and the address in it.
func (d *dice) element() (text, name, addr string) {
	addr = d.address()
	if d.throw(3) == 0 {
		return d.blanks() + addr + d.blanks(), "", addr
	}
	var names []string
	wasPlain := false
	for range 1 + d.throw(3) {
		word := d.one(d.quoted(), d.some(1, 3, func() string { return d.one("x", ".", "Ann", "'", "0") }))
		isPlain := word[0] != '"'
		if isPlain && wasPlain {
			text += " "
		}
		text += d.blanks() + word
		names, wasPlain = append(names, meant(word)), isPlain
	}
	return text + d.blanks() + "<" + addr + ">" + d.blanks(), strings.Join(names, " "), addr
}

func TestP9_3ThrownLists(t *testing.T) {
	d := dice(93)
	for range 20000 {
		n := 1 + d.throw(18)
		var parts []string
		var want []api.Addr
		for range n {
			text, name, addr := d.element()
			local, domain, _ := strings.Cut(addr, "@")
			parts, want = append(parts, text), append(want, api.Addr{Name: name, Local: local, Domain: domain})
		}
		s := strings.Join(parts, ",")
		l, e := address.List(s)
		if n > 16 && (e != api.ErrLong || len(l) > 0) || n <= 16 && (e != api.OK || !slices.Equal(l, want)) {
			t.Fatalf("List(%q): %q, %d; want %q", s, l, e, want)
		}
		asModel(t, s)
		i := d.throw(len(s))
		asModel(t, s[:i]+d.one("", ",", " ", `"`, `\`, "<", ">", "@", ".", "-", "a", "\r", "\xff")+s[i+d.throw(2):])
	}
}

func TestP9_5BackAndForth(t *testing.T) {
	d := dice(95)
	for range 20000 {
		s := d.address()
		a, e := address.Parse(s)
		if x, f := address.Print(a); e != api.OK || f != api.OK || x != s {
			t.Fatalf("Print(Parse(%q)): %q, %d, %d", s, x, e, f)
		}
		list(t, s, a)
		path(t, "<"+s+">", a)
	}
}
