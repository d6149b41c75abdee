package codec_test

import (
	"encoding/base64"
	"strconv"
	"strings"
	"testing"

	"estafette/api"
	"estafette/codec"
)

// texts calls f with each text of at most so many of the letters.
func texts(letters string, most int, f func(s string)) {
	l := []string{""}
	for len(l) > 0 {
		s := l[0]
		l = l[1:]
		f(s)
		if len(s) < most {
			for i := range len(letters) {
				l = append(l, s+letters[i:i+1])
			}
		}
	}
}

// dice throws the same numbers in each run.
type dice uint64

func (d *dice) throw(n int) int {
	*d = *d*6364136223846793005 + 1442695040888963407
	return int(uint64(*d) >> 33 % uint64(n))
}

func (d *dice) bytes(n int) []byte {
	b := make([]byte, n)
	for i := range b {
		b[i] = byte(d.throw(256))
	}
	return b
}

func backAndForth(t *testing.T, b []byte) {
	t.Helper()
	s := codec.Encode64(b)
	if s != base64.StdEncoding.EncodeToString(b) {
		t.Errorf("Encode64(%q): %q", b, s)
	}
	if got, e := codec.Decode64(s); e != api.OK || string(got) != string(b) {
		t.Errorf("Decode64(%q): %q, %d; want %q", s, got, e, b)
	}
}

func TestP7_6Decode64OfEncode64(t *testing.T) {
	backAndForth(t, nil)
	for i := range 256 {
		backAndForth(t, []byte{byte(i)})
		for j := range 256 {
			backAndForth(t, []byte{byte(i), byte(j)})
		}
	}
	d := dice(7)
	for n := range 300 {
		for range 5 {
			backAndForth(t, d.bytes(n))
		}
	}
	backAndForth(t, d.bytes(api.MaxMessage))
	backAndForth(t, d.bytes(api.MaxScript))
}

// TestP7_6OneEncoding: no other text than the encoding of some bytes is accepted, and none is the encoding of what another one is.
func TestP7_6OneEncoding(t *testing.T) {
	seen := map[string]string{}
	texts("AQgw/9=\n.", 6, func(s string) {
		want, err := base64.StdEncoding.Strict().DecodeString(s)
		ok := err == nil && !strings.Contains(s, "\n")
		b, e := codec.Decode64(s)
		if ok != (e == api.OK) || !ok && (e != api.ErrCode || b != nil) || ok && string(b) != string(want) {
			t.Fatalf("Decode64(%q): %q, %d", s, b, e)
		}
		if !ok {
			return
		}
		if other, is := seen[string(b)]; is || codec.Encode64(b) != s {
			t.Fatalf("%q and %q are both %q", s, other, b)
		}
		seen[string(b)] = s
	})
	if len(seen) < 100 {
		t.Error(len(seen))
	}
}

// TestP7_6ChangedCodes changes encodings at one place: what is still accepted is another text.
func TestP7_6ChangedCodes(t *testing.T) {
	d := dice(8)
	for n := 1; n < 60; n++ {
		b := d.bytes(n)
		s := codec.Encode64(b)
		for i := range len(s) {
			for _, c := range []string{"", "=", "A", "\n", "_", "\x80", s[i:i+1] + "B"} {
				changed := s[:i] + c + s[i+1:]
				if changed == s {
					continue
				}
				if got, e := codec.Decode64(changed); e == api.OK && (string(got) == string(b) || codec.Encode64(got) != changed) {
					t.Fatalf("%q is %q, as %q is", changed, got, s)
				}
			}
		}
	}
}

// stuffed is P7.2 taken word by word, byte by byte.
func stuffed(text string) string {
	if text != "" && !strings.HasSuffix(text, "\r\n") {
		text += "\r\n"
	}
	s := ""
	for i := range len(text) {
		begins := i == 0 || i >= 2 && text[i-2] == '\r' && text[i-1] == '\n'
		if begins && text[i] == '.' {
			s += "."
		}
		s += text[i : i+1]
	}
	return s + ".\r\n"
}

// unstuffed reads a message line by line; nothing may stand behind its end.
func unstuffed(t *testing.T, s string) string {
	t.Helper()
	text := ""
	for {
		line, rest, is := strings.Cut(s, "\r\n")
		if !is {
			t.Fatalf("a message without an end: %q", s)
		}
		part, end := codec.Unstuff(line)
		if end {
			if part != "" || rest != "" {
				t.Errorf("at the end %q, and %q behind it", part, rest)
			}
			return text
		}
		text += part + "\r\n"
		s = rest
	}
}

func thereAndBack(t *testing.T, text string) {
	t.Helper()
	got := string(codec.Stuff([]byte(text)))
	if want := stuffed(text); got != want {
		t.Fatalf("Stuff(%q): %q, want %q", text, got, want)
	}
	want := text
	if want != "" && !strings.HasSuffix(want, "\r\n") {
		want += "\r\n"
	}
	if back := unstuffed(t, got); back != want {
		t.Fatalf("%q came back as %q", text, back)
	}
}

func TestP7_6UnstuffOfStuff(t *testing.T) {
	texts(".\r\na", 8, func(s string) { thereAndBack(t, s) })
	d := dice(9)
	pieces := []string{".", "..", "\r\n", "\r\n.", "\r", "\n", "a", "line", "\x00", "\xff", "\r\n\r\n"}
	for range 300 {
		var s strings.Builder
		for range d.throw(60) {
			s.WriteString(pieces[d.throw(len(pieces))])
		}
		thereAndBack(t, s.String())
	}
}

// unquoted reads what Quote tells, as a client would.
func unquoted(s string) (string, bool) {
	if rest, is := strings.CutPrefix(s, "{"); is {
		count, text, _ := strings.Cut(rest, "}\r\n")
		return text, count == strconv.Itoa(len(text))
	}
	if len(s) < 2 || s[0] != '"' || s[len(s)-1] != '"' {
		return "", false
	}
	s = s[1 : len(s)-1]
	text := ""
	for i := 0; i < len(s); i++ {
		if s[i] == '\\' && i+1 < len(s) {
			i++
		} else if s[i] == '"' || s[i] == '\\' {
			return "", false
		}
		text += s[i : i+1]
	}
	return text, true
}

func TestP7_3ReadBack(t *testing.T) {
	check := func(s string) {
		q := codec.Quote(s)
		plain := len(s) <= 200 && strings.IndexFunc(s, func(r rune) bool { return r < 32 || r > 126 }) < 0
		if got, ok := unquoted(q); !ok || got != s || plain != (q[0] == '"') {
			t.Fatalf("Quote(%q): %q", s, q)
		}
	}
	texts("\"\\a{}\n\x7f\x80", 5, check)
	d := dice(10)
	for n := range 220 {
		check(string(d.bytes(n)))
		b := d.bytes(n)
		for i := range b {
			b[i] = 32 + b[i]%95
		}
		check(string(b))
	}
}

func TestP7_5Model(t *testing.T) {
	texts("0123459-+ a", 4, func(s string) {
		n, err := strconv.Atoi(s)
		is := err == nil && strconv.Itoa(n) == s && n >= 0
		for _, most := range []int{-1, 0, 9, 42, 1000, 9999} {
			want, ok := n, is && n <= most
			if !ok {
				want = 0
			}
			number(t, s, most, want, ok)
		}
	})
}
