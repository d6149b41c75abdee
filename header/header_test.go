package header_test

import (
	"bytes"
	"math"
	"slices"
	"strconv"
	"strings"
	"testing"

	"estafette/api"
	"estafette/header"
	"estafette/stamp"
)

// fields makes a list of names and values.
func fields(pairs ...string) []api.Field {
	var l []api.Field
	for i := 0; i < len(pairs); i += 2 {
		l = append(l, api.Field{Name: pairs[i], Value: pairs[i+1]})
	}
	return l
}

// parse holds the fields, and what is left as the body, against what they should be.
func parse(t *testing.T, s, body string, pairs ...string) {
	t.Helper()
	want := fields(pairs...)
	l, n := header.Parse([]byte(s))
	if !slices.Equal(l, want) || n < 0 || n > len(s) || s[n:] != body {
		t.Errorf("Parse(%q): %q, %d; want %q, %d", s, l, n, want, len(s)-len(body))
	}
}

func TestP10_1Fields(t *testing.T) {
	parse(t, "", "")
	parse(t, "A: b\r\n\r\nx", "x", "A", "b")
	parse(t, "A: b\r\nC: d\r\n\r\nx\r\ny", "x\r\ny", "A", "b", "C", "d")
	parse(t, "A: b\r\nC: d\r\nA: e\r\na: f\r\n\r\n", "", "A", "b", "C", "d", "A", "e", "a", "f")
	parse(t, "Subject: Hi there\r\nFrom: Ann <ann@estafette>\r\n\r\nHi.\r\n", "Hi.\r\n", "Subject", "Hi there", "From", "Ann <ann@estafette>")
	parse(t, "A:b\r\n\r\n", "", "A", "b")
	parse(t, "A:\r\n\r\n", "", "A", "")
	parse(t, "A: \r\n\r\n", "", "A", "")
	parse(t, "A: \t \r\n\r\n", "", "A", "")
	parse(t, "A:  b \t c\t \r\n\r\n", "", "A", "b \t c")
	parse(t, "A:\tb\r\n\r\n", "", "A", "b")
	parse(t, "A::\r\n\r\n", "", "A", ":")
	parse(t, "A: b: c:\r\n\r\n", "", "A", "b: c:")
	parse(t, "A::b:c\r\n\r\n", "", "A", ":b:c")
	parse(t, "!\"#$%&'()*+,-./0189;<=>?@AZ[\\]^_\x60az{|}~:x\r\n\r\n", "", "!\"#$%&'()*+,-./0189;<=>?@AZ[\\]^_\x60az{|}~", "x")
	parse(t, "A: \x00\x01\x7f\x80\xff\xc3\xa9\v\f\u00a0\r\n\r\n", "", "A", "\x00\x01\x7f\x80\xff\xc3\xa9\v\f\u00a0")
	long := strings.Repeat("n", 5000)
	parse(t, long+": "+long+"\r\n\r\n"+long, long, long, long)
}

func TestP10_1EmptyLine(t *testing.T) {
	parse(t, "\r\n", "")
	parse(t, "\r\nx", "x")
	parse(t, "\r\nA: b\r\n", "A: b\r\n")
	parse(t, "\r\n\r\n", "\r\n")
	parse(t, "\r\n x", " x")
	parse(t, "A: b\r\n\r\n", "", "A", "b")
	parse(t, "A: b\r\n\r\n\r\n", "\r\n", "A", "b")
	parse(t, "A: b\r\n\r\nC: d\r\n\r\nx", "C: d\r\n\r\nx", "A", "b")
	parse(t, "A: b\r\n\r\n c\r\n", " c\r\n", "A", "b")
	parse(t, "A: b\r\n\r\n\tc\r\n", "\tc\r\n", "A", "b")
}

func TestP10_1Continued(t *testing.T) {
	parse(t, "A: b\r\n c\r\n\r\nx", "x", "A", "b c")
	parse(t, "A: b\r\n\tc\r\n\r\nx", "x", "A", "b\tc")
	parse(t, "A: b \r\n c\r\n\r\n", "", "A", "b  c")
	parse(t, "A: b\t\r\n \t c \r\n\r\n", "", "A", "b\t \t c")
	parse(t, "A:\r\n b\r\n\r\n", "", "A", "b")
	parse(t, "A: \r\n\t\r\n b\r\n\r\n", "", "A", "b")
	parse(t, "A: b\r\n \r\n\t\r\n\r\nx", "x", "A", "b")
	parse(t, "A: b\r\n \r\n c\r\n\r\n", "", "A", "b  c")
	parse(t, "A: b\r\n c\r\n d\r\n\te\r\nF: g\r\n h\r\n\r\n i", " i", "A", "b c d\te", "F", "g h")
	parse(t, "A: b\r\n C: d\r\nE: f\r\n\r\n", "", "A", "b C: d", "E", "f")
	parse(t, "A: b\r\n :\r\n\r\n", "", "A", "b :")
	parse(t, "A: b\r\n \r\nx", "x", "A", "b")
	parse(t, "A: b\r\n c", "", "A", "b c")
	parse(t, "A: b\r\n ", "", "A", "b")
	parse(t, "A: b\r\n\t", "", "A", "b")
	parse(t, "A:\r\n ", "", "A", "")
	parse(t, "A: b\r\n c\r\nx\r\n d\r\n", "x\r\n d\r\n", "A", "b c")
}

func TestP10_1NothingToContinue(t *testing.T) {
	for _, s := range []string{" ", "\t", " \r\n", "\t\r\n", " a: b", " a: b\r\n", "\ta: b\r\n\r\n", " \r\nA: b\r\n\r\n", " :", " \r\n\r\n"} {
		parse(t, s, s)
	}
}

func TestP10_1OtherLinesEndIt(t *testing.T) {
	for _, line := range []string{
		"x", "x\r\n", "hi there", "hi", ":", ": x", ":x\r\n", "::", "A b: c\r\n", "A : b\r\n", "A\t: b\r\n", "A", "A\r\n: b\r\n", "A\r: b", "A\n: b", "A\x00: b", "A\x7f: b", "\x80: b", "é: b",
		"\n", "\n\r\n", "\nA: b\r\n", "\r", "\r\r\n", "\rA: b\r\n", "\r \r\n", "\x00", "\v", "\v: b", "\f", "\u00a0", "From x Sat Jan  1\r\n", "--x\r\n", ".\r\n",
	} {
		for _, rest := range []string{"", "\r\nC: d\r\n", "\r\n\r\nx", "\r\n e\r\n"} {
			parse(t, line+rest, line+rest)
			parse(t, "A: b\r\n"+line+rest, line+rest, "A", "b")
			parse(t, "A: b\r\n c\r\nD:\r\n"+line+rest, line+rest, "A", "b c", "D", "")
			parse(t, "A: b\r\n\r\n"+line+rest, line+rest, "A", "b")
		}
	}
}

func TestP10_1LinesEndBehindCRLFAlone(t *testing.T) {
	parse(t, "A: b\nC: d\r\n\r\n", "", "A", "b\nC: d")
	parse(t, "A: b\n\nC: d\r\nE: f\r\n\r\n", "", "A", "b\n\nC: d", "E", "f")
	parse(t, "A: b\rC: d\r\n\r\n", "", "A", "b\rC: d")
	parse(t, "A: b\n\rC: d\r\n\r\n", "", "A", "b\n\rC: d")
	parse(t, "A: b\r\r\nC: d\r\n\r\n", "", "A", "b\r", "C", "d")
	parse(t, "A: b\n\r\nC: d\r\n\r\n", "", "A", "b\n", "C", "d")
	parse(t, "A: \r\r\n \n\r\n\r\n", "", "A", "\r \n")
	parse(t, "A: b\r\n\n\r\n", "\n\r\n", "A", "b")
	parse(t, "A: b\r\n\r\r\n", "\r\r\n", "A", "b")
	parse(t, "A: b\n", "", "A", "b\n")
	parse(t, "A: b\r", "", "A", "b\r")
	parse(t, "A: b \r", "", "A", "b \r")
	parse(t, "A:\r", "", "A", "\r")
	parse(t, "A: b\r\n c\r", "", "A", "b c\r")
	parse(t, "A: b\r\n\r", "\r", "A", "b")
}

func TestP10_1TheEndOfB(t *testing.T) {
	parse(t, "A: b\r\n", "", "A", "b")
	parse(t, "A: b", "", "A", "b")
	parse(t, "A:b", "", "A", "b")
	parse(t, "A:", "", "A", "")
	parse(t, "A: ", "", "A", "")
	parse(t, "A: b\r\nC:", "", "A", "b", "C", "")
	parse(t, "A: b\r\nC", "C", "A", "b")
	whole := "A: b\r\n\tc \r\nLong-Name:d\r\n\r\nx"
	for n := range len(whole) + 1 {
		asModel(t, whole[:n])
	}
}

func TestP10_1EachByte(t *testing.T) {
	for n := range 256 {
		c := string([]byte{byte(n)})
		if n > 32 && n < 127 && c != ":" {
			parse(t, c+": b\r\n\r\nx", "x", c, "b")
			parse(t, "A"+c+"B: b\r\n\r\nx", "x", "A"+c+"B", "b")
			parse(t, "A: b\r\n"+c+":", "", "A", "b", c, "")
			parse(t, "A: b\r\n"+c+"\r\n", c+"\r\n", "A", "b")
		} else if c != ":" {
			parse(t, c+": b\r\n\r\nx", c+": b\r\n\r\nx")
			parse(t, "A"+c+"B: b\r\n\r\nx", "A"+c+"B: b\r\n\r\nx")
			parse(t, "A"+c+": b\r\n\r\nx", "A"+c+": b\r\n\r\nx")
		}
		if c == " " || c == "\t" {
			parse(t, "A:"+c+"b"+c+"d"+c+"\r\n"+c+"e"+c+"\r\n\r\nx", "x", "A", "b"+c+"d"+c+c+"e")
			continue
		}
		parse(t, "A:"+c+"\r\n\r\nx", "x", "A", c)
		parse(t, "A: "+c+"b"+c+"d"+c+" \r\n\r\nx", "x", "A", c+"b"+c+"d"+c)
		parse(t, "A: b\r\n "+c+" \r\n\r\nx", "x", "A", "b "+c)
		if c != ":" {
			parse(t, "A: b\r\n"+c+"x", c+"x", "A", "b")
		}
	}
}

// many returns a header of n fields, some of them continued, and the names and values of the first 64.
func many(n int) (string, []string) {
	var s strings.Builder
	var pairs []string
	for i := range n {
		name, value := "N"+strconv.Itoa(i), "v"+strconv.Itoa(i)
		s.WriteString(name + ": " + value + "\r\n")
		if i%3 == 0 || i >= 63 {
			s.WriteString("\tmore \r\n")
			value += "\tmore"
		}
		if i < 64 {
			pairs = append(pairs, name, value)
		}
	}
	return s.String(), pairs
}

func TestP10_1MaxFields(t *testing.T) {
	for _, n := range []int{1, 2, 62, 63, 64, 65, 66, 127, 128, 129, 1000} {
		s, pairs := many(n)
		parse(t, s, "", pairs...)
		parse(t, s+"\r\nx", "x", pairs...)
		parse(t, s+"x\r\n", "x\r\n", pairs...)
		parse(t, s[:len(s)-2], "", pairs...)
	}
}

func TestP10_1LongHeadersEnd(t *testing.T) {
	const n = 300000
	value := strings.Repeat(" x", n)
	parse(t, "A:"+strings.Repeat(" x\r\n", n)+"\r\n.", ".", "A", value[1:])
	s, pairs := many(100)
	parse(t, s+"B: c\r\n"+strings.Repeat(" x\r\n", n)+"\r\n.", ".", pairs...)
	parse(t, "A: b\r\n"+strings.Repeat("\r", n)+"\r\n", strings.Repeat("\r", n)+"\r\n", "A", "b")
	parse(t, "A:"+strings.Repeat(" ", n)+"b"+strings.Repeat("\r\n ", n), "", "A", "b")
	parse(t, strings.Repeat("a", n), strings.Repeat("a", n))
	if l, end := header.Parse([]byte(strings.Repeat("A: b\r\n", n))); len(l) != 64 || end != 6*n {
		t.Error(len(l), end)
	}
}

// TestP10_1ArgumentsStay: neither the bytes nor what lies behind them change, and what was returned is not changed by them.
func TestP10_1ArgumentsStay(t *testing.T) {
	whole := []byte("A: b\r\n c\r\nD: e\r\n f\r\n\r\nG: h\r\n i\r\n")
	for n := range len(whole) + 1 {
		b := bytes.Clone(whole)
		l, end := header.Parse(b[:n])
		if !bytes.Equal(b, whole) {
			t.Fatalf("%d: %q", n, b)
		}
		clear(b)
		b = append(b[:0], "X: y\r\n"...)
		again, endAgain := header.Parse(whole[:n])
		if !slices.Equal(l, again) || end != endAgain {
			t.Errorf("%d: %q, %d, then %q, %d", n, l, end, again, endAgain)
		}
		for i := range l {
			l[i] = api.Field{Name: "Z", Value: "z"}
		}
		if x, _ := header.Parse(whole[:n]); !slices.Equal(x, again) {
			t.Errorf("%d: %q, then %q", n, again, x)
		}
	}
}

func get(t *testing.T, l []api.Field, name, want string) {
	t.Helper()
	if v, is := header.Get(l, name); !is || v != want {
		t.Errorf("Get(%q, %q): %q, %v; want %q", l, name, v, is, want)
	}
}

func noGet(t *testing.T, l []api.Field, name string) {
	t.Helper()
	if v, is := header.Get(l, name); is || v != "" {
		t.Errorf("Get(%q, %q): %q, %v; want none", l, name, v, is)
	}
}

func TestP10_2Get(t *testing.T) {
	l := fields("Subject", "a", "X-Y", "", "subject", "b", "x-y", "c", "To", " d ", "TO", "e", "@[\x60{", "f", "é", "g", "k", "h")
	for _, name := range []string{"Subject", "subject", "SUBJECT", "sUBJECT", "SubJect"} {
		get(t, l, name, "a")
		get(t, l[1:], name, "b")
		noGet(t, l[3:], name)
	}
	for _, name := range []string{"X-Y", "x-y", "x-Y"} {
		get(t, l, name, "")
		get(t, l[2:], name, "c")
	}
	get(t, l, "to", " d ")
	get(t, l, "@[\x60{", "f")
	get(t, l, "é", "g")
	get(t, l, "K", "h")
	for _, name := range []string{"", "S", "Subjec", "Subjects", " Subject", "Subject ", "Subject:", "Subject: a", "a", "X_Y", "X", "Y", "Too", "\x60{@[", "@[@[", "\x60{\x60{", "É", "\u212a", "\u017fubject"} {
		noGet(t, l, name)
	}
	for _, name := range []string{"", "a", "Subject"} {
		noGet(t, nil, name)
		noGet(t, []api.Field{}, name)
	}
	get(t, fields("", "x", "a", "y"), "", "x")
	get(t, fields("", "x", "a", "y"), "A", "y")
	for _, f := range l {
		if v, is := header.Get([]api.Field{f}, f.Name); !is || v != f.Value {
			t.Errorf("%q: %q, %v", f, v, is)
		}
	}
	if !slices.Equal(l, fields("Subject", "a", "X-Y", "", "subject", "b", "x-y", "c", "To", " d ", "TO", "e", "@[\x60{", "f", "é", "g", "k", "h")) {
		t.Errorf("changed: %q", l)
	}
}

// TestP10_2EachByte has each pair of bytes as names: only a letter has two cases.
func TestP10_2EachByte(t *testing.T) {
	const letters = "abcdefghijklmnopqrstuvwxyzABCDEFGHIJKLMNOPQRSTUVWXYZ"
	for i := range 256 {
		for j := range 256 {
			a, b := string([]byte{byte(i)}), string([]byte{byte(j)})
			l := fields("x", "no", "X"+a, "yes")
			k := strings.Index(letters, a)
			if i == j || k >= 0 && letters[(k+26)%52] == byte(j) {
				get(t, l, "x"+b, "yes")
			} else {
				noGet(t, l, "x"+b)
			}
		}
	}
}

func words(t *testing.T, s string, want ...string) {
	t.Helper()
	if l := header.Words(s); !slices.Equal(l, want) {
		t.Errorf("Words(%q): %q; want %q", s, l, want)
	}
}

func TestP10_3Words(t *testing.T) {
	for _, s := range []string{"", " ", "\t", "  ", " \t \t\t "} {
		words(t, s)
	}
	words(t, "a", "a")
	words(t, " a  b\tc ", "a", "b", "c")
	words(t, "\ta\t \tb", "a", "b")
	words(t, "b a b", "b", "a", "b")
	words(t, "quoted-printable (x)", "quoted-printable", "(x)")
	words(t, "\"a b\"", "\"a", "b\"")
	words(t, "a\r\n b\nc\r", "a\r\n", "b\nc\r")
	words(t, "\r\n", "\r\n")
	words(t, "a\vb\fc\u00a0d\u2003e\u0085f\x00g", "a\vb\fc\u00a0d\u2003e\u0085f\x00g")
	words(t, "\xff \x80\xc3 \xa9", "\xff", "\x80\xc3", "\xa9")
	words(t, "é \ufffd", "é", "\ufffd")
	words(t, strings.Repeat(" x", 100000), slices.Repeat([]string{"x"}, 100000)...)
	for n := range 256 {
		c := string([]byte{byte(n)})
		if c == " " || c == "\t" {
			words(t, c+"a"+c+"b"+c+c, "a", "b")
		} else {
			words(t, c, c)
			words(t, " "+c+"a"+c+"b"+c+"\t"+c+" ", c+"a"+c+"b"+c, c)
		}
	}
}

func trace(t *testing.T, from, to, by string, id, second int, want string) {
	t.Helper()
	if s := header.Trace(from, to, by, id, second); s != want {
		t.Errorf("Trace(%q, %q, %q, %d, %d): %q; want %q", from, to, by, id, second, s, want)
	}
}

func TestP10_5Trace(t *testing.T) {
	trace(t, "bob@estafette", "ann@estafette", "estafette", 1, 0, "Return-Path: <bob@estafette>\r\nDelivered-To: ann@estafette\r\nReceived: by estafette id 1; Sat, 01 Jan 2000 00:00:00 +0000\r\n")
	trace(t, "", "c@d", "x", 0, 5097600, "Return-Path: <>\r\nDelivered-To: c@d\r\nReceived: by x id 0; Tue, 29 Feb 2000 00:00:00 +0000\r\n")
	trace(t, "", "", "", -1, 1<<32-1, "Return-Path: <>\r\nDelivered-To: \r\nReceived: by  id -1; Tue, 07 Feb 2136 06:28:15 +0000\r\n")
	for _, second := range []int{-1, 1 << 32, math.MinInt, math.MaxInt} {
		trace(t, "a@b", "c@d", "x", 7, second, "Return-Path: <a@b>\r\nDelivered-To: c@d\r\nReceived: by x id 7; \r\n")
	}
	for id, text := range map[int]string{9: "9", 10: "10", 4294967295: "4294967295", -10: "-10", math.MaxInt64: "9223372036854775807", math.MinInt64: "-9223372036854775808"} {
		trace(t, "a", "b", "c", id, 86399, "Return-Path: <a>\r\nDelivered-To: b\r\nReceived: by c id "+text+"; Sat, 01 Jan 2000 23:59:59 +0000\r\n")
	}
	trace(t, "<>%s\r\n", "\xff: ;", " ; \x00", 1, 0, "Return-Path: <<>%s\r\n>\r\nDelivered-To: \xff: ;\r\nReceived: by  ; \x00 id 1; Sat, 01 Jan 2000 00:00:00 +0000\r\n")
}

func TestP10_5TheTraceIsAHeader(t *testing.T) {
	for second := 0; second < api.MaxClock; second += 40000003 {
		s := header.Trace("a@b", "c@d", "x", second, second)
		at := stamp.Header(second)
		parse(t, s+"Subject: hi\r\n\r\nx", "x", "Return-Path", "<a@b>", "Delivered-To", "c@d", "Received", "by x id "+strconv.Itoa(second)+"; "+at, "Subject", "hi")
	}
}

func TestExamples(t *testing.T) {
	parse(t, "A: b\r\n c\r\n\r\nx", "x", "A", "b c")
	if _, n := header.Parse([]byte("A: b\r\n c\r\n\r\nx")); n != 12 {
		t.Error(n)
	}
	parse(t, "A: b\r\nx", "x", "A", "b")
	parse(t, " a: b", " a: b")
	if l, n := header.Parse(nil); len(l) != 0 || n != 0 {
		t.Error(l, n)
	}
	kind(t, `Multipart/mixed; boundary="a b"`, "MULTIPART", "MIXED", "a b")
	noKind(t, "text")
}
