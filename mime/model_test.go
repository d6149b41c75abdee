package mime_test

import (
	"fmt"
	"reflect"
	"regexp"
	"slices"
	"strings"
	"testing"

	"estafette/api"
	"estafette/header"
	"estafette/mime"
)

// texts calls f with each text of at most so many of the letters.
func texts(letters []string, most int, f func(s string)) {
	var extend func(s string, more int)
	extend = func(s string, more int) {
		f(s)
		for _, c := range letters {
			if more > 0 {
				extend(s+c, more-1)
			}
		}
	}
	extend("", most)
}

// dice throws the same numbers in each run.
type dice uint64

func (d *dice) throw(n int) int {
	*d = *d*6364136223846793005 + 1442695040888963407
	return int(uint64(*d) >> 33 % uint64(n))
}

func (d *dice) some(least, most int, f func() string) string {
	s := ""
	for range least + d.throw(most-least+1) {
		s += f()
	}
	return s
}

func (d *dice) one(of ...string) string { return of[d.throw(len(of))] }

var encodingText = regexp.MustCompile(`\A[ \t]*([0-9A-Za-z-]+)(?:[ \t]|\z)`)

// wanted is what Parse is to find: all parts first, of which those that are too many are then taken away.
func wanted(s string) api.Part {
	p := allParts(s, 0, 0)
	left := 16
	prune(&p, &left)
	return p
}

// allParts takes a part as lines, which it hands on to the parts within it.
func allParts(s string, from, depth int) api.Part {
	l, n := header.Parse([]byte(s))
	p := api.Part{Encoding: "7BIT", From: from, Body: from + n, To: from + len(s)}
	p.Type, p.Sub, p.Boundary = header.Kind(l)
	for i := len(l) - 1; i >= 0; i-- { // so that the first one counts
		if strings.EqualFold(l[i].Name, "Content-Transfer-Encoding") {
			p.Encoding = "7BIT"
			if m := encodingText.FindStringSubmatch(l[i].Value); m != nil {
				p.Encoding = strings.ToUpper(m[1])
			}
		}
	}
	if p.Type != "MULTIPART" || p.Boundary == "" || depth == 4 {
		return p
	}
	mark := regexp.MustCompile(`\A--` + regexp.QuoteMeta(p.Boundary) + `(--)?[ \t]*\z`)
	var lines []string
	inside, at, begin := false, p.Body, 0
	end := func() {
		if inside {
			p.Parts = append(p.Parts, allParts(strings.Join(lines, "\r\n"), begin, depth+1))
		}
	}
	for _, line := range strings.Split(s[n:], "\r\n") {
		at = min(at+len(line)+2, p.To)
		if m := mark.FindStringSubmatch(line); m != nil {
			end()
			if m[1] != "" {
				return p
			}
			inside, lines, begin = true, nil, at
		} else {
			lines = append(lines, line)
		}
	}
	end()
	return p
}

func prune(p *api.Part, left *int) {
	var kept []api.Part
	for _, q := range p.Parts {
		if *left > 0 {
			*left--
			prune(&q, left)
			kept = append(kept, q)
		}
	}
	p.Parts = kept
	if p.Type == "MULTIPART" && kept == nil {
		p.Type, p.Sub, p.Boundary = "TEXT", "PLAIN", ""
	}
}

// described is what Structure is to tell of a part without words for which quotation marks do not do.
func described(s string, p api.Part) string {
	if p.Parts == nil {
		body := s[p.Body:p.To]
		lines := ""
		if p.Type == "TEXT" {
			lines = fmt.Sprint(" ", len(strings.Split(body, "\r\n"))-1)
		}
		return fmt.Sprintf(`("%s" "%s" NIL NIL NIL "%s" %d%s)`, p.Type, p.Sub, p.Encoding, len(body), lines)
	}
	inner := ""
	for _, q := range p.Parts {
		inner += described(s, q)
	}
	return "(" + inner + ` "` + p.Sub + `")`
}

// asModel holds all calls against the model, and returns how many parts there are within parts.
func asModel(t *testing.T, s string) int {
	t.Helper()
	b, want := []byte(s), wanted(s)
	if p := mime.Parse(b); !reflect.DeepEqual(p, want) {
		t.Fatalf("Parse(%q):\n%v; want\n%v", s, p, want)
	}
	if d := mime.Structure(b); d != described(s, want) {
		t.Fatalf("Structure(%q):\n%s; want\n%s", s, d, described(s, want))
	}
	section(t, s, s, 0)
	section(t, s, s[:want.Body], 1)
	section(t, s, s[want.Body:], 2)
	if want.Parts == nil {
		section(t, s, s[want.Body:], 0, 1)
		section(t, s, s[:want.Body], 3, 1)
	}
	return inside(t, s, want, nil)
}

// inside holds the parts of a part against its place, and their sections against theirs.
func inside(t *testing.T, s string, p api.Part, numbers []int) int {
	t.Helper()
	n, last := 0, p.Body
	for i, q := range p.Parts {
		to := append(slices.Clone(numbers), i+1)
		section(t, s, s[q.Body:q.To], 0, to...)
		section(t, s, s[q.From:q.Body], 3, to...)
		if q.From < last || q.Body < q.From || q.To < q.Body || q.To > p.To {
			t.Fatalf("%q: %v in %v", s, q, p)
		}
		last = q.To
		n += 1 + inside(t, s, q, to)
	}
	noSection(t, s, api.ErrPart, 0, append(slices.Clone(numbers), max(2, len(p.Parts)+1))...)
	return n
}

func TestP11_1ShortTexts(t *testing.T) {
	var some [5]int
	count := func(s string) { some[min(4, asModel(t, s))]++ }
	texts([]string{"--", "x", "\r\n", "\r", "\n"}, 6, func(s string) { count(mixed + s) })
	texts([]string{"--x", "--x--", " ", "\r\n", "\t"}, 6, func(s string) { count(mixed + s) })
	texts([]string{"--x\r\n", "--x--\r\n", "--y\r\n", "--y--", "Content-Type: multipart/a; boundary=y\r\n", "\r\n"}, 6, func(s string) { count(mixed + s) })
	texts([]string{"--x", "x", "Content-Type: multipart/a; boundary=x", "\r\n", ":"}, 6, func(s string) { count(s) })
	if slices.Contains(some[:], 0) {
		t.Error(some)
	}
}

func (d *dice) head() string {
	return d.some(0, 2, func() string {
		if d.throw(5) == 0 {
			return d.one("A: b", "x:", "Content-Transfer-Encoding: ") + d.one("", "base64", "8bit x", "c;", "\r\n\tq-p") + "\r\n"
		}
		return d.one("Content-Type: ", "content-type:") + d.one("multipart/mixed", "Multipart/digest", "multipart/x", "multipart/y", "a/b") + ";" + d.one(" ", "\r\n ") + "boundary=" + d.one("x", "x", "y", "y", "x--", `"x y"`) + "\r\n"
	}) + d.one("\r\n", "\r\n", "\r\n", "")
}

// message makes lines, among which there are headers and delimiters.
func (d *dice) message() string {
	return d.head() + d.some(0, 50, func() string {
		if d.throw(3) > 0 {
			return "--" + d.one("x", "x", "y", "y", "x--", "x y") + d.one("", "", "", "", "", "", "", "", "", "", "", "--") + d.one("", "", " ", "\t") + d.one("\r\n", "\r\n", "\r\n", "\r\n"+d.head(), "\r\n"+d.head(), "\n")
		}
		return d.one("", "a", "--", "--x-", "\xff", "\r", "bc") + "\r\n"
	})
}

// TestP11_5ManyMessages holds what is found in messages of many lines against the model, the places of parts within parts too.
func TestP11_5ManyMessages(t *testing.T) {
	d := dice(111)
	var some [17]int
	for range 20000 {
		n := asModel(t, d.message())
		some[n]++
	}
	if slices.Contains(some[:], 0) {
		t.Error(some)
	}
}

// TestP11_2ManyParts has each section of few numbers, and follows it by hand.
func TestP11_2ManyParts(t *testing.T) {
	d := dice(112)
	for range 300 {
		s := d.message()
		p := wanted(s)
		var try func(numbers []int, q *api.Part)
		try = func(numbers []int, q *api.Part) {
			got, e := mime.Find(p, numbers)
			if q == nil && (e != api.ErrPart || !reflect.DeepEqual(got, api.Part{})) || q != nil && (e != api.OK || !reflect.DeepEqual(got, *q)) {
				t.Fatalf("%q, %v: %v, %d; want %v", s, numbers, got, e, q)
			}
			for n := -1; n < 5 && len(numbers) < 5; n++ {
				var next *api.Part
				if q != nil && n >= 1 && n <= len(q.Parts) {
					next = &q.Parts[n-1]
				} else if n == 1 && len(numbers) == 0 && len(p.Parts) == 0 {
					alone := p
					alone.Parts = nil
					next = &alone
				}
				try(append(slices.Clone(numbers), n), next)
			}
		}
		try(nil, &p)
	}
}
