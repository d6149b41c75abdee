package mime_test

import (
	"bytes"
	"reflect"
	"slices"
	"strconv"
	"strings"
	"testing"

	"estafette/api"
	"estafette/mime"
)

const (
	mixed = "Content-Type: multipart/mixed; boundary=x\r\n\r\n"
	plain = "TEXT/PLAIN 7BIT"
)

// told writes a part of b: its kind, boundary and encoding, its header, and its body or the parts in it.
func told(b string, p api.Part) string {
	s := p.Type + "/" + p.Sub + " "
	if p.Boundary != "" {
		s += "=" + p.Boundary + " "
	}
	s += p.Encoding
	if p.From < 0 || p.From > p.Body || p.Body > p.To || p.To > len(b) {
		return s + " out of place"
	}
	if len(p.Parts) == 0 {
		return s + piece(b, p)
	}
	var inner []string
	for _, q := range p.Parts {
		inner = append(inner, told(b, q))
	}
	return s + "{" + strings.Join(inner, ", ") + "}"
}

func piece(b string, p api.Part) string {
	return " " + strconv.Quote(b[p.From:p.Body]) + strconv.Quote(b[p.Body:p.To])
}

func parse(t *testing.T, b, want string) {
	t.Helper()
	if s := told(b, mime.Parse([]byte(b))); s != want {
		t.Errorf("Parse(%q):\n%s; want\n%s", b, s, want)
	}
}

// inMixed has a body of a part with the boundary x, and holds the bodies of the parts in it against what they should be.
func inMixed(t *testing.T, body string, want ...string) {
	t.Helper()
	b := mixed + body
	p := mime.Parse([]byte(b))
	if len(want) == 0 {
		if s := told(b, p); s != plain+" "+strconv.Quote(mixed)+strconv.Quote(body) {
			t.Errorf("Parse(%q):\n%s", b, s)
		}
		return
	}
	var got []string
	for _, q := range p.Parts {
		got = append(got, b[q.From:q.To])
	}
	if !slices.Equal(got, want) || p.Type != "MULTIPART" || p.Boundary != "x" {
		t.Errorf("Parse(%q): %q; want %q", b, got, want)
	}
}

func TestP11_1OnePart(t *testing.T) {
	parse(t, "", plain+` """"`)
	parse(t, "x", plain+` """x"`)
	parse(t, "x\r\n", plain+` """x\r\n"`)
	parse(t, "\r\n", plain+` "\r\n"""`)
	parse(t, "\r\nx", plain+` "\r\n""x"`)
	parse(t, "A: b", plain+` "A: b"""`)
	parse(t, "A: b\r\n\r\nx\r\n", plain+` "A: b\r\n\r\n""x\r\n"`)
	parse(t, "A: b\r\nx\r\n", plain+` "A: b\r\n""x\r\n"`)
	parse(t, "Content-Type: image/png\r\n\r\nx", `IMAGE/PNG 7BIT "Content-Type: image/png\r\n\r\n""x"`)
	parse(t, "content-type: Text/Html; charset=x\r\n\r\n", `TEXT/HTML 7BIT "content-type: Text/Html; charset=x\r\n\r\n"""`)
	parse(t, "Content-Type: image\r\n\r\n", plain+` "Content-Type: image\r\n\r\n"""`)
	parse(t, "Content-Type: message/rfc822\r\n\r\n"+mixed+"--x\r\n", `MESSAGE/RFC822 7BIT "Content-Type: message/rfc822\r\n\r\n""Content-Type: multipart/mixed; boundary=x\r\n\r\n--x\r\n"`)
}

// TestP11_1OtherTypesHaveNoParts: only MULTIPART has, but the boundary of any type is told.
func TestP11_1OtherTypesHaveNoParts(t *testing.T) {
	for _, kind := range []string{"text/plain", "multipar/mixed", "multiparts/mixed", "x-multipart/mixed", "mixed/multipart", "message/multipart"} {
		b := "Content-Type: " + kind + "; boundary=x\r\n\r\n--x\r\n\r\na\r\n--x--\r\n"
		p := mime.Parse([]byte(b))
		if len(p.Parts) != 0 || p.Boundary != "x" || p.Type+"/"+p.Sub != strings.ToUpper(kind) || b[p.Body:p.To] != "--x\r\n\r\na\r\n--x--\r\n" {
			t.Errorf("%q: %v", b, p)
		}
	}
	for _, kind := range []string{"multipart/mixed", "MULTIPART/Alternative", "Multipart/x"} {
		b := "Content-Type: " + kind + "; boundary=x\r\n\r\n--x\r\n\r\na\r\n--x--\r\n"
		parse(t, b, strings.ToUpper(kind)+` =x 7BIT{TEXT/PLAIN 7BIT "\r\n""a"}`)
	}
}

func encoded(t *testing.T, header, want string) {
	t.Helper()
	if p := mime.Parse([]byte(header + "\r\nx")); p.Encoding != want {
		t.Errorf("%q: %q; want %q", header, p.Encoding, want)
	}
}

func TestP11_1Encoding(t *testing.T) {
	const name = "Content-Transfer-Encoding: "
	encoded(t, "", "7BIT")
	encoded(t, "A: base64\r\nContent-Type: image/png\r\n", "7BIT")
	encoded(t, name+"base64\r\n", "BASE64")
	encoded(t, name+"Quoted-Printable\r\n", "QUOTED-PRINTABLE")
	encoded(t, "CONTENT-transfer-ENCODING:8bit\r\n", "8BIT")
	encoded(t, name+"7bit\r\n", "7BIT")
	encoded(t, name+"\r\n", "7BIT")
	encoded(t, name+" \t \r\n", "7BIT")
	encoded(t, name+"\t base64\t\r\n", "BASE64")
	encoded(t, name+"base64 x\r\n", "BASE64")
	encoded(t, name+"base64\t;x\r\n", "BASE64")
	encoded(t, name+"base64;x\r\n", "7BIT")
	encoded(t, name+"base64 ; x=\"\r\n", "BASE64")
	encoded(t, name+"(x) base64\r\n", "7BIT")
	encoded(t, name+"; base64\r\n", "7BIT")
	encoded(t, name+"\r\n base64\r\n x\r\n", "BASE64")
	encoded(t, name+"base\r\n 64\r\n", "BASE")
	encoded(t, name+"-\r\n", "-")
	encoded(t, name+"0\r\n", "0")
	encoded(t, name+strings.Repeat("a", 1000)+"\r\n", strings.Repeat("A", 1000))
	encoded(t, name+"a\r\n"+name+"b\r\n", "A")
	encoded(t, name+"=\r\n"+name+"b\r\n", "7BIT")
	encoded(t, name+"\r\n"+name+"b\r\n", "7BIT")
	encoded(t, "Content-Transfer-Encodin: a\r\nContent-Transfer-Encodings: b\r\n", "7BIT")
	encoded(t, strings.Repeat("A: b\r\n", 63)+name+"c\r\n", "C")
	encoded(t, strings.Repeat("A: b\r\n", 64)+name+"c\r\n", "7BIT")
	parse(t, "Content-Type: image/png\r\n"+name+"x\r\n\r\n"+name+"y\r\n", `IMAGE/PNG X "Content-Type: image/png\r\nContent-Transfer-Encoding: x\r\n\r\n""Content-Transfer-Encoding: y\r\n"`)
}

func TestP11_1EncodingEachByte(t *testing.T) {
	const good = "-0123456789ABCDEFGHIJKLMNOPQRSTUVWXYZabcdefghijklmnopqrstuvwxyz"
	for n := range 256 {
		c := string([]byte{byte(n)})
		for _, word := range []string{c, c + "aZ", "aZ" + c, "a" + c + "Z"} {
			want := "7BIT"
			if strings.Contains(good, c) {
				want = strings.ToUpper(word)
			} else if word = strings.Trim(word, " \t"); c == " " || c == "\t" {
				want = strings.ToUpper(strings.Trim(word[:min(2, len(word))], " \t"))
				if word == "a"+c+"Z" {
					want = "A"
				}
				if word == "" {
					want = "7BIT"
				}
			}
			encoded(t, "Content-Transfer-Encoding: "+word+"\r\n", want)
		}
	}
}

func TestP11_1EncodingOfEachPart(t *testing.T) {
	b := "Content-Transfer-Encoding: a\r\n" + mixed + "--x\r\nContent-Transfer-Encoding: b\r\n\r\n--x\r\n\r\n--x\r\nContent-Transfer-Encoding: c d\r\n\r\n--x--"
	p := mime.Parse([]byte(b))
	if p.Encoding != "A" || len(p.Parts) != 3 || p.Parts[0].Encoding != "B" || p.Parts[1].Encoding != "7BIT" || p.Parts[2].Encoding != "C" {
		t.Error(p)
	}
}

func TestP11_1Parts(t *testing.T) {
	inMixed(t, "--x\r\n\r\na\r\n--x--\r\n", "\r\na")
	inMixed(t, "--x\r\n\r\na\r\n--x\r\n\r\nb\r\n--x--\r\n", "\r\na", "\r\nb")
	inMixed(t, "ahead\r\n--x\r\na\r\n--x--\r\nbehind", "a")
	inMixed(t, "\r\n--x\r\na\r\n\r\n--x--", "a\r\n")
	inMixed(t, "--x\r\na\r\n\r\n\r\n--x\r\n\r\n\r\nb\r\n\r\n--x--", "a\r\n\r\n", "\r\n\r\nb\r\n")
	inMixed(t, "--x\r\na\rb\nc\r\n--x--", "a\rb\nc")
	inMixed(t, "--x\r\na\r\r\n--x--", "a\r")
	inMixed(t, "--x\r\na\n\r\n--x--", "a\n")
	parse(t, mixed+"--x\r\nContent-Type: a/b; boundary=y\r\n\r\nc\r\n--x\r\nD: e\r\nf\r\n--x--\r\n", `MULTIPART/MIXED =x 7BIT{A/B =y 7BIT "Content-Type: a/b; boundary=y\r\n\r\n""c", TEXT/PLAIN 7BIT "D: e\r\n""f"}`)
}

func TestP11_1Offsets(t *testing.T) {
	b := mixed + "ahead\r\n--x\r\nA: b\r\n\r\nc\r\n--x\r\n--x \t\r\nd\r\n--x--\r\n--x\r\n"
	at := func(s string) int { return strings.Index(b, s) }
	want := api.Part{Type: "MULTIPART", Sub: "MIXED", Boundary: "x", Encoding: "7BIT", Body: len(mixed), To: len(b), Parts: []api.Part{
		{Type: "TEXT", Sub: "PLAIN", Encoding: "7BIT", From: at("A:"), Body: at("c\r\n--x"), To: at("c\r\n--x") + 1},
		{Type: "TEXT", Sub: "PLAIN", Encoding: "7BIT", From: at("--x \t"), Body: at("--x \t"), To: at("--x \t")},
		{Type: "TEXT", Sub: "PLAIN", Encoding: "7BIT", From: at("d\r\n--x--"), Body: at("d\r\n--x--"), To: at("d\r\n--x--") + 1},
	}}
	if p := mime.Parse([]byte(b)); !reflect.DeepEqual(p, want) {
		t.Errorf("%v; want %v", p, want)
	}
}

func TestP11_1EmptyParts(t *testing.T) {
	inMixed(t, "--x", "")
	inMixed(t, "--x\r\n", "")
	inMixed(t, "--x \t", "")
	inMixed(t, "--x\r\n--x", "", "")
	inMixed(t, "--x\r\n--x--", "")
	inMixed(t, "--x\r\n\r\n--x--", "")
	inMixed(t, "--x\r\n\r\n\r\n--x--", "\r\n")
	inMixed(t, "--x\r\n\r\n", "\r\n")
	inMixed(t, "--x\r\n--x\r\n\r\n--x\r\na\r\n--x\r\n", "", "", "a", "")
	b := mixed + "--x\r\n--x--"
	if p := mime.Parse([]byte(b)).Parts[0]; p.From != len(mixed)+5 || p.Body != p.From || p.To != p.From {
		t.Error(p)
	}
	b = mixed + "--x"
	if p := mime.Parse([]byte(b)).Parts[0]; p.From != len(b) || p.Body != p.From || p.To != p.From {
		t.Error(p)
	}
}

func TestP11_1LastPart(t *testing.T) {
	inMixed(t, "--x\r\na", "a")
	inMixed(t, "--x\r\na\r\n", "a\r\n")
	inMixed(t, "--x\r\na\r\n\r\n", "a\r\n\r\n")
	inMixed(t, "--x\r\na\r\n--x\r\nb\r\n--", "a", "b\r\n--")
	inMixed(t, "--x\r\na\r\n--x-", "a\r\n--x-")
	inMixed(t, "--x\r\na\r\n--x\r", "a\r\n--x\r")
	inMixed(t, "--x\r\na\r\n--x--\r", "a\r\n--x--\r")
	inMixed(t, "--x\r\na\r", "a\r")
}

func TestP11_1FinalDelimiter(t *testing.T) {
	for _, final := range []string{"--x--", "--x-- ", "--x--\t", "--x-- \t  ", "--x--\r\n", "--x-- \r\n", "--x--\r\n--x\r\nb\r\n--x--", "--x--\r\n--x--\r\n", "--x--\r\n\r\n--x\r\n"} {
		inMixed(t, "--x\r\na\r\n"+final, "a")
		inMixed(t, "--x\r\na\r\n--x\r\n"+final, "a", "")
		inMixed(t, final)
		inMixed(t, "ahead\r\n"+final)
	}
	for _, other := range []string{"--x--a", "--x --", "--x-- -", "--x---", "--x----", "--x-", "--x- -", "--x\t--", " --x--", "-x--", "---x--", "--X--", "--y--", "x--", "--xx--", "----"} {
		inMixed(t, "--x\r\na\r\n"+other, "a\r\n"+other)
		inMixed(t, "--x\r\na\r\n"+other+"\r\n--x\r\nb", "a\r\n"+other, "b")
		inMixed(t, other+"\r\nb")
	}
}

func TestP11_1DelimiterLines(t *testing.T) {
	for _, line := range []string{"--x", "--x ", "--x\t", "--x \t\t  "} {
		inMixed(t, line+"\r\na", "a")
		inMixed(t, "b\r\n"+line+"\r\na\r\n"+line, "a", "")
	}
	for _, line := range []string{"", "-", "--", "x", "-x", "---x", " --x", "\t--x", "--xx", "--x x", "--x\v", "--x\r", "--x\n", "--x\r ", "--x\x00", "--X", "-- x", "--y", "\n--x", "\r--x", "a--x", "\"--x\"", "--\"x\"", "--x;", "--\r", "--\n"} {
		inMixed(t, line+"\r\na")
		inMixed(t, "--x\r\n"+line+"\r\na", line+"\r\na")
		inMixed(t, "--x\r\na\r\n"+line, "a\r\n"+line)
	}
	inMixed(t, "a\n--x\n")
	inMixed(t, "a\r--x\r")
	inMixed(t, "a\n\r--x\r\nb")
	inMixed(t, "--x\nb\r\n--x\r\nc", "c")
	inMixed(t, "--x\r\n\r--x\r\n\n--x", "\r--x\r\n\n--x")
}

func TestP11_1DelimiterEachByte(t *testing.T) {
	for n := range 256 {
		c := string([]byte{byte(n)})
		if c == " " || c == "\t" {
			inMixed(t, "--x"+c+"\r\na\r\n--x"+c+c+"\r\nb\r\n--x--"+c, "a", "b")
		} else {
			inMixed(t, "--x\r\na\r\n--x"+c+"\r\nb\r\n--x--"+c, "a\r\n--x"+c+"\r\nb\r\n--x--"+c)
			inMixed(t, "--x\r\na\r\n--x "+c+"\r\nb\r\n--x-- "+c, "a\r\n--x "+c+"\r\nb\r\n--x-- "+c)
		}
		if c != "x" {
			inMixed(t, "--"+c+"\r\na\r\n--"+c+"--")
		}
		inMixed(t, c+"--x\r\na\r\n"+c+"--x--")
		inMixed(t, "--x\r\n"+c+"a\r\n--x--", c+"a")
		inMixed(t, "--x\r\na"+c+"\r\n--x--", "a"+c)
	}
}

func TestP11_1Boundaries(t *testing.T) {
	for _, boundary := range []string{"x", "X", "-", "--", "---", "x--", "--x", "a b", " x", "a  b", "'()+_,./:=?", `\`, `"`, "==", "x-", strings.Repeat("b", 70), strings.Repeat("-", 69) + "x"} {
		head := "Content-Type: multipart/mixed; boundary=\"" + strings.NewReplacer(`\`, `\\`, `"`, `\"`).Replace(boundary) + "\"\r\n\r\n"
		b := head + "--" + boundary + "\r\n\r\na\r\n--" + boundary + " \r\n\r\nb\r\n--" + boundary + "--\r\n--" + boundary + "\r\nc"
		parse(t, b, "MULTIPART/MIXED ="+boundary+` 7BIT{TEXT/PLAIN 7BIT "\r\n""a", TEXT/PLAIN 7BIT "\r\n""b"}`)
		body := "--" + boundary[:len(boundary)-1] + "\r\na"
		parse(t, head+body, plain+" "+strconv.Quote(head)+strconv.Quote(body))
	}
	long := strings.Repeat("b", 71)
	for _, s := range []string{"", `; boundary=""`, "; boundary=" + long, `; boundary="x "`, "; charset=x"} {
		for _, mark := range []string{"", "x", "x ", long, long[1:]} {
			head := "Content-Type: multipart/mixed" + s + "\r\n\r\n"
			body := "--" + mark + "\r\na\r\n--" + mark + "--"
			parse(t, head+body, plain+" "+strconv.Quote(head)+strconv.Quote(body))
		}
	}
}

// TestP11_1BodyBehindNoEmptyLine: a delimiter is no field, so it may end the header itself.
func TestP11_1BodyBehindNoEmptyLine(t *testing.T) {
	head := strings.TrimSuffix(mixed, "\r\n")
	parse(t, head+"--x\r\na\r\n--x--", `MULTIPART/MIXED =x 7BIT{TEXT/PLAIN 7BIT """a"}`)
	parse(t, head+"--x", `MULTIPART/MIXED =x 7BIT{TEXT/PLAIN 7BIT """"}`)
	parse(t, head+"--x--\r\n--x", plain+" "+strconv.Quote(head)+`"--x--\r\n--x"`)
	parse(t, head, plain+" "+strconv.Quote(head)+`""`)
	parse(t, "Content-Type: multipart/mixed; boundary=\"x:\"\r\n--x:\r\n\r\na", plain+` "Content-Type: multipart/mixed; boundary=\"x:\"\r\n--x:\r\n\r\n""a"`)
	parse(t, mixed+"--x\r\nA: b\r\n--x--\r\n", `MULTIPART/MIXED =x 7BIT{TEXT/PLAIN 7BIT "A: b"""}`)
	parse(t, mixed+"--x\r\nA: b\r\n\r\n--x--\r\n", `MULTIPART/MIXED =x 7BIT{TEXT/PLAIN 7BIT "A: b\r\n"""}`)
	parse(t, mixed+"--x\r\nA: b\r\n\r\n\r\n--x--\r\n", `MULTIPART/MIXED =x 7BIT{TEXT/PLAIN 7BIT "A: b\r\n\r\n"""}`)
}

func TestP11_1NoParts(t *testing.T) {
	for _, body := range []string{"", "a", "a\r\n", "--x--", "--x--\r\n--x\r\na", "--y\r\na\r\n--y--", "\r\n", "--", "----"} {
		inMixed(t, body)
	}
	parse(t, "Content-Transfer-Encoding: base64\r\n"+mixed+"a", `TEXT/PLAIN BASE64 "Content-Transfer-Encoding: base64\r\nContent-Type: multipart/mixed; boundary=x\r\n\r\n""a"`)
	parse(t, mixed+"--x\r\nContent-Transfer-Encoding: 8bit\r\nContent-Type: multipart/digest; boundary=y\r\n\r\n--y--\r\n--x--", `MULTIPART/MIXED =x 7BIT{TEXT/PLAIN 8BIT "Content-Transfer-Encoding: 8bit\r\nContent-Type: multipart/digest; boundary=y\r\n\r\n""--y--"}`)
}

func TestP11_1Nested(t *testing.T) {
	inner := "Content-Type: multipart/digest; boundary=y\r\n\r\n"
	parse(t, mixed+"--x\r\n"+inner+"--y\r\n\r\na\r\n--y\r\n\r\nb\r\n--y--\r\n--x\r\n\r\nc\r\n--x--", `MULTIPART/MIXED =x 7BIT{MULTIPART/DIGEST =y 7BIT{TEXT/PLAIN 7BIT "\r\n""a", TEXT/PLAIN 7BIT "\r\n""b"}, TEXT/PLAIN 7BIT "\r\n""c"}`)
	parse(t, mixed+"--x\r\n"+inner+"--y\r\na\r\n--y--\r\n--x--", `MULTIPART/MIXED =x 7BIT{MULTIPART/DIGEST =y 7BIT{TEXT/PLAIN 7BIT """a"}}`)
	parse(t, mixed+"--x\r\n"+inner+"--y\r\na\r\n--x\r\nb\r\n--y\r\nc", `MULTIPART/MIXED =x 7BIT{MULTIPART/DIGEST =y 7BIT{TEXT/PLAIN 7BIT """a"}, TEXT/PLAIN 7BIT """b\r\n--y\r\nc"}`)
	parse(t, mixed+"--x\r\n"+inner+"--y\r\n--x--\r\n--y\r\n", `MULTIPART/MIXED =x 7BIT{MULTIPART/DIGEST =y 7BIT{TEXT/PLAIN 7BIT """"}}`)
	same := "Content-Type: multipart/digest; boundary=x\r\n\r\n"
	parse(t, mixed+"--x\r\n"+same+"--x\r\na\r\n--x--\r\n--x\r\nb", `MULTIPART/MIXED =x 7BIT{TEXT/PLAIN 7BIT "Content-Type: multipart/digest; boundary=x\r\n""", TEXT/PLAIN 7BIT """a"}`)
	longer := "Content-Type: multipart/digest; boundary=\"x--\"\r\n\r\n"
	parse(t, mixed+"--x\r\n"+longer+"--x----\r\n--x--\r\n", `MULTIPART/MIXED =x 7BIT{TEXT/PLAIN 7BIT "Content-Type: multipart/digest; boundary=\"x--\"\r\n\r\n""--x----"}`)
}

// deep returns a message with so many multiparts, each of which is a part of the one ahead of it, with so many parts behind it.
func deep(n, more int) string {
	if n == 0 {
		return "\r\na"
	}
	mark := "b" + strconv.Itoa(n)
	return "Content-Type: multipart/mixed; boundary=" + mark + "\r\n\r\n--" + mark + "\r\n" + deep(n-1, more) + strings.Repeat("\r\n--"+mark+"\r\n\r\nc", more) + "\r\n--" + mark + "--"
}

func TestP11_1MaxNest(t *testing.T) {
	for n := range 12 {
		b := deep(n, 0)
		p := mime.Parse([]byte(b))
		depth := 0
		for ; len(p.Parts) > 0; p = p.Parts[0] {
			if len(p.Parts) != 1 || p.Type != "MULTIPART" {
				t.Error(n, depth, p)
			}
			depth++
		}
		if depth != min(n, 4) || p.Type != "TEXT" || p.Sub != "PLAIN" || p.Boundary != "" {
			t.Error(n, depth, p)
		}
	}
	b := deep(6, 1)
	p := mime.Parse([]byte(b))
	for range 3 {
		if len(p.Parts) != 2 || told(b, p.Parts[1]) != plain+` "\r\n""c"` {
			t.Error(p)
		}
		p = p.Parts[0]
	}
	if len(p.Parts) != 2 || len(p.Parts[0].Parts) != 0 || p.Parts[0].Type != "TEXT" || p.Parts[1].Type != "TEXT" {
		t.Error(p)
	}
}

// sizes writes how many parts there are in each part.
func sizes(p api.Part) string {
	s := ""
	for _, q := range p.Parts {
		s += sizes(q)
	}
	if s == "" {
		return "."
	}
	return "(" + s + ")"
}

func TestP11_1MaxParts(t *testing.T) {
	for _, n := range []int{1, 2, 15, 16, 17, 18, 100} {
		b := mixed + strings.Repeat("--x\r\n\r\na\r\n", n) + "--x--"
		p := mime.Parse([]byte(b))
		if len(p.Parts) != min(n, 16) {
			t.Error(n, len(p.Parts))
		}
		for _, q := range p.Parts {
			if told(b, q) != plain+` "\r\n""a"` {
				t.Error(n, told(b, q))
			}
		}
	}
	inner := func(n int) string {
		return "--x\r\nContent-Type: multipart/mixed; boundary=y\r\n\r\n" + strings.Repeat("--y\r\na\r\n", n) + "--y--\r\n"
	}
	for _, c := range []struct{ body, want string }{
		{inner(7) + inner(7) + "--x\r\nb", "((.......)(.......))"},
		{inner(7) + inner(6) + "--x\r\nb", "((.......)(......).)"},
		{inner(7) + inner(6) + "--x\r\nb\r\n--x\r\nc", "((.......)(......).)"},
		{inner(14) + inner(1) + "--x\r\nb", "((..............).)"},
		{inner(15) + inner(1) + "--x\r\nb", "((...............))"},
		{inner(16) + inner(1), "((...............))"},
		{inner(100) + "--x\r\nb", "((...............))"},
		{inner(13) + inner(3), "((.............)(.))"},
		{inner(1) + inner(100), "((.)(.............))"},
		{"--x\r\na\r\n" + inner(100), "(.(..............))"},
		{strings.Repeat("--x\r\na\r\n", 14) + inner(2), "(..............(.))"},
		{strings.Repeat("--x\r\na\r\n", 15) + inner(2), "(................)"},
		{strings.Repeat("--x\r\na\r\n", 16) + inner(2), "(................)"},
		{strings.Repeat(inner(1), 9), "(" + strings.Repeat("(.)", 8) + ")"},
		{"--x\r\na\r\n" + strings.Repeat(inner(1), 9), "(." + strings.Repeat("(.)", 7) + ".)"},
	} {
		if s := sizes(mime.Parse([]byte(mixed + c.body))); s != c.want {
			t.Errorf("%q: %s; want %s", c.body, s, c.want)
		}
	}
	last := mime.Parse([]byte(mixed + strings.Repeat("--x\r\na\r\n", 15) + inner(2))).Parts[15]
	if last.Type != "TEXT" || last.Sub != "PLAIN" || last.Boundary != "" {
		t.Error(last)
	}
	if s := sizes(mime.Parse([]byte(deep(4, 20)))); s != "(((("+strings.Repeat(".", 13)+"))))" {
		t.Error(s)
	}
}

// TestP11_1MaxPartsEnd: the last part that is added ends ahead of the delimiter behind it, though no more begins there.
func TestP11_1MaxPartsEnd(t *testing.T) {
	inMixed(t, strings.Repeat("--x\r\na\r\n", 20), slices.Repeat([]string{"a"}, 16)...)
	inMixed(t, strings.Repeat("--x\r\na\r\n", 16), append(slices.Repeat([]string{"a"}, 15), "a\r\n")...)
	inMixed(t, strings.Repeat("--x\r\na\r\n", 16)+"--x--", slices.Repeat([]string{"a"}, 16)...)
}

func TestP11_1LongMessagesEnd(t *testing.T) {
	const n = 300000
	for _, body := range []string{strings.Repeat("\r\n", n), strings.Repeat("--x\r\n", n), strings.Repeat("--x-\r\n", n), strings.Repeat("\r", n), strings.Repeat("-", n), "--x" + strings.Repeat(" ", n), "--x\r\nA:" + strings.Repeat(" x\r\n", n)} {
		if p := mime.Parse([]byte(mixed + body)); len(p.Parts) > 16 || p.To != len(mixed)+len(body) {
			t.Error(len(p.Parts), p.To)
		}
		mime.Structure([]byte(mixed + body))
	}
	mime.Parse([]byte(deep(3000, 1)))
}

func find(t *testing.T, p api.Part, want api.Part, section ...int) {
	t.Helper()
	if q, e := mime.Find(p, section); e != api.OK || !reflect.DeepEqual(q, want) {
		t.Errorf("Find(%v, %v): %v, %d; want %v", p, section, q, e, want)
	}
}

func noFind(t *testing.T, p api.Part, section ...int) {
	t.Helper()
	if q, e := mime.Find(p, section); e != api.ErrPart || !reflect.DeepEqual(q, api.Part{}) {
		t.Errorf("Find(%v, %v): %v, %d; want %d", p, section, q, e, api.ErrPart)
	}
}

// tree is a part with three parts, of which the second has two.
func tree() api.Part {
	return api.Part{Type: "A", To: 50, Parts: []api.Part{
		{Type: "B", From: 10},
		{Type: "C", Boundary: "y", Parts: []api.Part{{Type: "E", Sub: "x"}, {Type: "F", Encoding: "z", Body: 7}}},
		{Type: "D", To: 40},
	}}
}

func TestP11_2Find(t *testing.T) {
	p := tree()
	find(t, p, p)
	find(t, p, p.Parts[0], 1)
	find(t, p, p.Parts[1], 2)
	find(t, p, p.Parts[2], 3)
	find(t, p, p.Parts[1].Parts[0], 2, 1)
	find(t, p, p.Parts[1].Parts[1], 2, 2)
	for _, n := range []int{0, -1, 4, 5, -1 << 63, 1<<63 - 1, 1 << 32, 1<<32 + 1} {
		noFind(t, p, n)
		noFind(t, p, 2, n)
		noFind(t, p, n, 1)
		noFind(t, p, 2, 1, n)
	}
	noFind(t, p, 2, 3)
	noFind(t, p, 1, 1)
	noFind(t, p, 1, 1, 1)
	noFind(t, p, 3, 1)
	noFind(t, p, 2, 1, 1)
	noFind(t, p, 2, 2, 1)
	if q, e := mime.Find(p, []int{}); e != api.OK || !reflect.DeepEqual(q, p) {
		t.Error(q, e)
	}
}

func TestP11_2WithoutParts(t *testing.T) {
	for _, p := range []api.Part{{}, {Type: "TEXT", Sub: "PLAIN", Encoding: "7BIT", Body: 3, To: 5}, {Type: "MULTIPART", Boundary: "x"}, {Type: "A", Parts: []api.Part{}}} {
		q, e := mime.Find(p, []int{1})
		if e != api.OK || len(q.Parts) != 0 || q.Type != p.Type || q.Sub != p.Sub || q.Boundary != p.Boundary || q.Encoding != p.Encoding || q.From != p.From || q.Body != p.Body || q.To != p.To {
			t.Error(p, q, e)
		}
		for _, section := range [][]int{{0}, {2}, {-1}, {1, 1}, {1, 0}, {2, 1}, {1, 1, 1}, {0, 1}, {16}} {
			noFind(t, p, section...)
		}
	}
}

// TestP11_2Deep: a part may come from elsewhere than Parse.
func TestP11_2Deep(t *testing.T) {
	p := api.Part{Type: "LAST"}
	var section []int
	for range 1 << 16 {
		p = api.Part{Parts: []api.Part{p}}
		section = append(section, 1)
	}
	if q, e := mime.Find(p, section); e != api.OK || q.Type != "LAST" {
		t.Error(q, e)
	}
	noFind(t, p, append(section, 1)...)
	if q, e := mime.Find(p, nil); e != api.OK || len(q.Parts) != 1 {
		t.Error(e)
	}
	wide := api.Part{Parts: make([]api.Part, 100000)}
	wide.Parts[99999].Type = "LAST"
	find(t, wide, api.Part{Type: "LAST"}, 100000)
	noFind(t, wide, 100001)
}

// TestP11_2Copies: what is returned shares nothing with what was given, nor with what is returned next.
func TestP11_2Copies(t *testing.T) {
	for _, section := range [][]int{nil, {2}, {2, 1}, {3}} {
		p := tree()
		q, _ := mime.Find(p, section)
		spoil(q)
		if !reflect.DeepEqual(p, tree()) {
			t.Error(section, p)
		}
		q, _ = mime.Find(p, section)
		want, _ := mime.Find(tree(), section)
		spoil(p)
		if !reflect.DeepEqual(q, want) {
			t.Error(section, q)
		}
	}
	behind := []api.Part{{Type: "X"}}
	q, _ := mime.Find(api.Part{Parts: behind[:0]}, []int{1})
	_ = append(q.Parts, api.Part{Type: "Y"})
	q, _ = mime.Find(api.Part{Parts: behind[:0]}, nil)
	_ = append(q.Parts, api.Part{Type: "Y"})
	if behind[0].Type != "X" {
		t.Error(behind)
	}
}

func spoil(p api.Part) {
	for i := range p.Parts {
		spoil(p.Parts[i])
		p.Parts[i] = api.Part{Type: "SPOILT"}
	}
}

const two = mixed + "ahead\r\n--x\r\nA: b\r\n\r\na\r\n--x\r\nContent-Type: multipart/digest; boundary=y\r\n\r\n--y\r\nC: d\r\nc\r\n--y--\r\n--x\r\n--x--\r\nbehind\r\n"

func section(t *testing.T, b, want string, what int, numbers ...int) {
	t.Helper()
	if s, e := mime.Section([]byte(b), numbers, what); e != api.OK || string(s) != want {
		t.Errorf("Section(%q, %v, %d): %q, %d; want %q", b, numbers, what, s, e, want)
	}
}

func noSection(t *testing.T, b string, want api.Errno, what int, numbers ...int) {
	t.Helper()
	if s, e := mime.Section([]byte(b), numbers, what); e != want || len(s) != 0 {
		t.Errorf("Section(%q, %v, %d): %q, %d; want %d", b, numbers, what, s, e, want)
	}
}

func TestP11_3Section(t *testing.T) {
	section(t, two, two, 0)
	section(t, two, mixed, 1)
	section(t, two, two[len(mixed):], 2)
	section(t, two, "a", 0, 1)
	section(t, two, "A: b\r\n\r\n", 3, 1)
	section(t, two, "--y\r\nC: d\r\nc\r\n--y--", 0, 2)
	section(t, two, "Content-Type: multipart/digest; boundary=y\r\n\r\n", 3, 2)
	section(t, two, "c", 0, 2, 1)
	section(t, two, "C: d\r\n", 3, 2, 1)
	section(t, two, "", 0, 3)
	section(t, two, "", 3, 3)
	if s, e := mime.Section([]byte(two), []int{}, 1); e != api.OK || string(s) != mixed {
		t.Errorf("%q %d", s, e)
	}
}

func TestP11_3WithoutParts(t *testing.T) {
	for _, b := range []struct{ header, body string }{{"", ""}, {"A: b\r\n\r\n", "x\r\n"}, {"\r\n", "x"}, {"", "x\r\n\r\ny"}, {"A: b\r\n", "x"}, {"A: b", ""}, {mixed, "--y\r\n"}, {"Content-Type: image/png; boundary=x\r\n\r\n", "--x\r\n"}} {
		whole := b.header + b.body
		section(t, whole, whole, 0)
		section(t, whole, b.header, 1)
		section(t, whole, b.body, 2)
		section(t, whole, b.body, 0, 1)
		section(t, whole, b.header, 3, 1)
		noSection(t, whole, api.ErrPart, 3)
		noSection(t, whole, api.ErrPart, 1, 1)
		noSection(t, whole, api.ErrPart, 2, 1)
		noSection(t, whole, api.ErrPart, 0, 1, 1)
		noSection(t, whole, api.ErrPart, 0, 2)
		noSection(t, whole, api.ErrPart, 0, 0)
	}
}

func TestP11_3Wrong(t *testing.T) {
	noSection(t, two, api.ErrPart, 3)
	for _, numbers := range [][]int{{1}, {2}, {3}, {2, 1}} {
		noSection(t, two, api.ErrPart, 1, numbers...)
		noSection(t, two, api.ErrPart, 2, numbers...)
	}
	for _, numbers := range [][]int{{0}, {4}, {-1}, {1, 1}, {2, 0}, {2, 2}, {2, 1, 1}, {3, 1}, {1 << 62}} {
		for what := range 4 {
			noSection(t, two, api.ErrPart, what, numbers...)
		}
	}
	for _, what := range []int{-1, 4, 5, -1 << 63, 1<<63 - 1, 256} {
		for _, numbers := range [][]int{nil, {1}, {2, 1}, {0}, {4}, {1, 1}} {
			noSection(t, two, api.ErrArg, what, numbers...)
			noSection(t, "", api.ErrArg, what, numbers...)
		}
	}
}

func structure(t *testing.T, b, want string) {
	t.Helper()
	if s := mime.Structure([]byte(b)); s != want {
		t.Errorf("Structure(%q):\n%s; want\n%s", b, s, want)
	}
}

func TestP11_4Structure(t *testing.T) {
	structure(t, "", `("TEXT" "PLAIN" NIL NIL NIL "7BIT" 0 0)`)
	structure(t, "A: b\r\n\r\n", `("TEXT" "PLAIN" NIL NIL NIL "7BIT" 0 0)`)
	structure(t, "A: b\r\n\r\nx\r\ny\r\n", `("TEXT" "PLAIN" NIL NIL NIL "7BIT" 6 2)`)
	structure(t, "Content-Type: text/html\r\nContent-Transfer-Encoding: 8bit\r\n\r\nx\r\ny", `("TEXT" "HTML" NIL NIL NIL "8BIT" 4 1)`)
	structure(t, "Content-Type: image/png\r\nContent-Transfer-Encoding: base64\r\n\r\nx\r\ny\r\n", `("IMAGE" "PNG" NIL NIL NIL "BASE64" 6)`)
	structure(t, "Content-Type: texts/html\r\n\r\n", `("TEXTS" "HTML" NIL NIL NIL "7BIT" 0)`)
	structure(t, mixed+"x\r\n", `("TEXT" "PLAIN" NIL NIL NIL "7BIT" 3 1)`)
	structure(t, mixed+"--x", `(("TEXT" "PLAIN" NIL NIL NIL "7BIT" 0 0) "MIXED")`)
	structure(t, two, `(("TEXT" "PLAIN" NIL NIL NIL "7BIT" 1 0)(("TEXT" "PLAIN" NIL NIL NIL "7BIT" 1 0) "DIGEST")("TEXT" "PLAIN" NIL NIL NIL "7BIT" 0 0) "MIXED")`)
	structure(t, mixed+"--x\r\n\r\na\r\nb\r\n\r\n--x\r\nContent-Type: a/b\r\n\r\na\r\nb\r\n", `(("TEXT" "PLAIN" NIL NIL NIL "7BIT" 6 2)("A" "B" NIL NIL NIL "7BIT" 6) "MIXED")`)
	structure(t, strings.Repeat("x", 123456), `("TEXT" "PLAIN" NIL NIL NIL "7BIT" 123456 0)`)
}

func TestP11_4LinesOfText(t *testing.T) {
	for body, want := range map[string]string{"\r": "1 0", "\n": "1 0", "\n\r": "2 0", "\r\n": "2 1", "\r\r\n\n": "4 1", "\r\n\r\n": "4 2", "\r\n\n\r\n\r": "6 2", "a\r\nb\r\nc": "7 2"} {
		structure(t, "A: b\r\n\r\n"+body, `("TEXT" "PLAIN" NIL NIL NIL "7BIT" `+want+`)`)
	}
}

// TestP11_4Quote: a word too long for quotation marks is written as a literal.
func TestP11_4Quote(t *testing.T) {
	fit, long := strings.Repeat("A", 200), strings.Repeat("A", 201)
	head := func(kind, sub, encoding string) string {
		return "Content-Type: " + kind + "/" + sub + "; boundary=x\r\nContent-Transfer-Encoding: " + encoding + "\r\n\r\n"
	}
	structure(t, head(fit, fit, fit), `("`+fit+`" "`+fit+`" NIL NIL NIL "`+fit+`" 0)`)
	structure(t, head(long, "b", "c"), "({201}\r\n"+long+` "B" NIL NIL NIL "C" 0)`)
	structure(t, head("a", long, "c"), `("A" {201}`+"\r\n"+long+` NIL NIL NIL "C" 0)`)
	structure(t, head("text", "b", long), `("TEXT" "B" NIL NIL NIL {201}`+"\r\n"+long+` 0 0)`)
	structure(t, head("multipart", long, "c")+"--x", `(("TEXT" "PLAIN" NIL NIL NIL "7BIT" 0 0) {201}`+"\r\n"+long+`)`)
	structure(t, head("multipart", fit, "c")+"--x", `(("TEXT" "PLAIN" NIL NIL NIL "7BIT" 0 0) "`+fit+`")`)
}

// TestArgumentsStay: neither the bytes nor what lies behind them change, and what was returned is not changed by them.
func TestArgumentsStay(t *testing.T) {
	whole := []byte(two)
	numbers := []int{2, 1, 7}
	for n := range len(whole) + 1 {
		b := bytes.Clone(whole)
		p, s := mime.Parse(b[:n]), mime.Structure(b[:n])
		all, _ := mime.Section(b[:n], nil, 0)
		one, e := mime.Section(b[:n], numbers[:2], 0)
		if !bytes.Equal(b, whole) || !slices.Equal(numbers, []int{2, 1, 7}) {
			t.Fatalf("%d: %q %v", n, b, numbers)
		}
		clear(b)
		q, again := mime.Parse(whole[:n]), mime.Structure(whole[:n])
		oneAgain, _ := mime.Section(whole[:n], []int{2, 1}, 0)
		if !reflect.DeepEqual(p, q) || s != again || !bytes.Equal(all, whole[:n]) || !bytes.Equal(one, oneAgain) {
			t.Errorf("%d: %v, then %v", n, p, q)
		}
		clear(all)
		clear(one)
		spoil(p)
		_, _ = append(all, "more"...), append(one, "more"...)
		if string(whole) != two || !reflect.DeepEqual(q, mime.Parse(whole[:n])) {
			t.Errorf("%d, %d: %q", n, e, whole)
		}
	}
}

func TestExamples(t *testing.T) {
	const m = mixed + "--x\r\n\r\na\r\n--x\r\nContent-Type: image/png\r\n\r\nb\r\n--x--\r\n"
	structure(t, m, `(("TEXT" "PLAIN" NIL NIL NIL "7BIT" 1 0)("IMAGE" "PNG" NIL NIL NIL "7BIT" 1) "MIXED")`)
	section(t, m, "a", 0, 1)
	section(t, m, "Content-Type: image/png\r\n\r\n", 3, 2)
	noSection(t, m, api.ErrPart, 0, 3)
	structure(t, "A: b\r\n\r\nx\r\n", `("TEXT" "PLAIN" NIL NIL NIL "7BIT" 3 1)`)
}
