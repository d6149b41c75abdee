package header_test

import (
	"slices"
	"strings"
	"testing"

	"estafette/api"
	"estafette/header"
)

func kindOf(t *testing.T, l []api.Field, kind, sub, boundary string) {
	t.Helper()
	if k, s, b := header.Kind(l); k != kind || s != sub || b != boundary {
		t.Errorf("Kind(%q): %q, %q, %q; want %q, %q, %q", l, k, s, b, kind, sub, boundary)
	}
}

func kind(t *testing.T, value, kind, sub, boundary string) {
	t.Helper()
	kindOf(t, fields("Content-Type", value), kind, sub, boundary)
}

// noKind asks of what has not the form what it asks of a message without the field.
func noKind(t *testing.T, value string) {
	t.Helper()
	kind(t, value, "TEXT", "PLAIN", "")
}

func TestP10_4TheField(t *testing.T) {
	kindOf(t, nil, "TEXT", "PLAIN", "")
	kindOf(t, []api.Field{}, "TEXT", "PLAIN", "")
	kindOf(t, fields("Content-Typ", "a/b", "Content-Types", "a/b", "Content-Type ", "a/b", "Content_Type", "a/b", "", "a/b"), "TEXT", "PLAIN", "")
	for _, name := range []string{"Content-Type", "content-type", "CONTENT-TYPE", "cONTENT-tYPE"} {
		kindOf(t, fields("Subject", "x", name, "a/b; boundary=c", "To", "y"), "A", "B", "c")
		kindOf(t, fields(name, "a/b", "Content-Type", "c/d"), "A", "B", "")
		kindOf(t, fields(name, "text", "Content-Type", "c/d"), "TEXT", "PLAIN", "")
		kindOf(t, fields(name, "", "Content-Type", "c/d; boundary=x"), "TEXT", "PLAIN", "")
	}
	l := fields("content-type", "Image/png")
	kindOf(t, l, "IMAGE", "PNG", "")
	if !slices.Equal(l, fields("content-type", "Image/png")) {
		t.Errorf("changed: %q", l)
	}
}

func TestP10_4Form(t *testing.T) {
	kind(t, "a/b", "A", "B", "")
	kind(t, "text/plain", "TEXT", "PLAIN", "")
	kind(t, "Text/Html; charset=utf-8", "TEXT", "HTML", "")
	kind(t, "1/2", "1", "2", "")
	kind(t, "application/x-a.b+c", "APPLICATION", "X-A.B+C", "")
	kind(t, "!#$%&/!#$%&'*+-.^_\x60{|}~", "!#$%&", "!#$%&'*+-.^_\x60{|}~", "")
	kind(t, "multipart/mixed;boundary=x", "MULTIPART", "MIXED", "x")
	kind(t, "multipart/mixed; charset=y; boundary=x; a=b", "MULTIPART", "MIXED", "x")
	kind(t, "a/b;c=d;e=f;g=h", "A", "B", "")
	kind(t, `a/b;c="d";e="";g="\""`, "A", "B", "")
	kind(t, `a/b;c="d;boundary=x"`, "A", "B", "")
	kind(t, `a/b;c="d\";boundary=x"`, "A", "B", "")
	kind(t, `a/b;c="d\\";boundary=x`, "A", "B", "x")
	kind(t, `a/b;c=d;c=e`, "A", "B", "")
	kind(t, "a/b;c=\"\x00\r\n\x7f\xff\"", "A", "B", "")
	kind(t, "a/b;c=\"\\\r\\\n\\\x00\\\xff\";boundary=x", "A", "B", "x")
	kind(t, strings.Repeat("a", 3000)+"/"+strings.Repeat("b", 3000), strings.Repeat("A", 3000), strings.Repeat("B", 3000), "")
	kind(t, "a/b"+strings.Repeat(";c=d", 100000)+";boundary=x", "A", "B", "x")
	kind(t, `a/b;c="`+strings.Repeat(`\"`, 200000)+`";boundary=x`, "A", "B", "x")
}

func TestP10_4Blanks(t *testing.T) {
	pieces := []string{"", "a", "/", "b", ";", "boundary", "=", "c", ";", "d", "=", `"e"`, ""}
	for i := range len(pieces) - 1 {
		for _, blanks := range []string{" ", "\t", "  ", " \t \t"} {
			kind(t, strings.Join(pieces[:i+1], "")+blanks+strings.Join(pieces[i+1:], ""), "A", "B", "c")
		}
		for _, other := range []string{"\r\n ", "\n", "\v", "\f", "\u00a0", "\x00"} {
			noKind(t, strings.Join(pieces[:i+1], "")+other+strings.Join(pieces[i+1:], ""))
		}
	}
	for _, blanks := range []string{" ", "\t", " \t "} {
		kind(t, strings.Join(pieces, blanks), "A", "B", "c")
		kind(t, "a/b"+blanks, "A", "B", "")
		kind(t, blanks+"a/b", "A", "B", "")
		for _, s := range []string{"a" + blanks + "a/b", "a/b" + blanks + "b", "a/b;c" + blanks + "c=d", "a/b;c=d" + blanks + "d", "a/b;c=d" + blanks + "e=f", "a/b" + blanks + "c=d", `a/b;c="d"` + blanks + `"d"`, `a/b;c="d"` + blanks + "d", `a/b;c=d` + blanks + `"d"`} {
			noKind(t, s)
		}
	}
}

func TestP10_4NotTheForm(t *testing.T) {
	for _, s := range []string{
		"", " ", "\t", "text", "a", "/", "a/", "/b", " /b", "a/ ", "a//b", "a/b/c", "a b/c", "a/b c", "a.b", "a;b", "a=b", "a,b",
		"a/b;", "a/b; ", "a/b;;", "a/b;;c=d", "a/b;c=d;", "a/b;c=d; ", "a/b;c=d;;e=f", "a/b,c=d", "a/b,", "a/b c=d", "a/b=c",
		"a/b;c", "a/b;c=", "a/b;c= ", "a/b;=d", "a/b; =d", "a/b;=", "a/b;c==d", "a/b;c=d=e", "a/b;c=d e", "a/b;c=d/e", "a/b;c d=e", "a/b;c/d=e",
		`a/b;"c"=d`, `a/b;c"d"=e`, `"a"/b`, `a/"b"`, `a/b;c=d"e"`, `a/b;c="d"e`, `a/b;c="d""e"`, `a/b;c="d`, `a/b;c="`, `a/b;c="\"`, `a/b;c="d\`, `a/b;c="d\"`, `a/b;c="\\\"`, `a/b;c="d"\`, `a/b;c=\d`, `a/b;c=d\`, `a/b;c="d"";`,
		"a/b (x)", "(x) a/b", "a(x)/b", "a/b;c=(d)", "a/b;c=<d>", "a/b;c=d@e", "a/b;c=d,e", "a/b;c=d:e", "a/b;c=[d]", "a/b;c=d?", "<a/b>", "a@b/c", "a:b/c", "a/b:c",
		"a/b\r\n", "\r\na/b", "a/b;\r\n c=d", "a/b\n", "a\x00/b", "a\x7f/b", "é/b", "a/é", "a/b;é=c", "a/b;c=é", "\xff/b", "a/\xff", "a/b;c=\xff",
	} {
		noKind(t, s)
		noKind(t, s+";boundary=x;")
		noKind(t, s+"/")
	}
	for _, s := range []string{`;c="d`, ";", ";c", ";c=", " d", "/c", ";boundary", `;boundary="`, ";;", ";boundary=y z", ";=x"} {
		noKind(t, "multipart/mixed;boundary=x"+s)
		noKind(t, "image/png"+s)
	}
}

func TestP10_4EachByte(t *testing.T) {
	const token = "!#$%&'*+-.0123456789ABCDEFGHIJKLMNOPQRSTUVWXYZ^_\x60abcdefghijklmnopqrstuvwxyz{|}~"
	for n := range 256 {
		c := string([]byte{byte(n)})
		up := c
		if c >= "a" && c <= "z" {
			up = string([]byte{byte(n - 32)})
		}
		if strings.Contains(token, c) {
			kind(t, c+"/b", up, "B", "")
			kind(t, "x"+c+"y/b", "X"+up+"Y", "B", "")
			kind(t, "a/"+c, "A", up, "")
			kind(t, "a/x"+c+"y", "A", "X"+up+"Y", "")
			kind(t, "a/b;x"+c+"y=z;boundary=w", "A", "B", "w")
			kind(t, "a/b;"+c+"="+c, "A", "B", "")
			kind(t, "a/b;boundary=x"+c+"y", "A", "B", "x"+c+"y")
			kind(t, "a/b;boundary"+c+"=y", "A", "B", "")
		} else {
			noKind(t, "x"+c+"y/b")
			if c != "/" {
				noKind(t, "a/x"+c+"y")
			}
			noKind(t, "a/b;x"+c+"y=z")
			noKind(t, "a/b;boundary=x"+c+"y")
		}
		quotedByte(t, n, c)
	}
}

// quotedByte has the byte between quotation marks, by itself and behind a backslash.
func quotedByte(t *testing.T, n int, c string) {
	t.Helper()
	boundary := "x" + c + "y"
	if n < 32 || n > 126 {
		boundary = ""
	}
	kind(t, `a/b;boundary="x\`+c+`y";c=d`, "A", "B", boundary)
	if c == `"` {
		noKind(t, `a/b;boundary="x`+c+`y";c=d`)
		return
	}
	if c == `\` {
		boundary = "xy"
	}
	kind(t, `a/b;boundary="x`+c+`y";c=d`, "A", "B", boundary)
}

func TestP10_4Boundary(t *testing.T) {
	for value, want := range map[string]string{
		"x":                              "x",
		"X":                              "X",
		"aBc":                            "aBc",
		`"x"`:                            "x",
		`""`:                             "",
		`" "`:                            "",
		`"x "`:                           "",
		`"x  "`:                          "",
		`"x\ "`:                          "",
		`" x"`:                           " x",
		`"x y"`:                          "x y",
		`"a b" `:                         "a b",
		"\"x\t\"":                        "",
		"\"\tx\"":                        "",
		"\"x\ty\"":                       "",
		"\"x\r\ny\"":                     "",
		"\"x\x1f\"":                      "",
		"\"x~\"":                         "x~",
		"\"x\x7f\"":                      "",
		"\"x\x7fy\"":                     "",
		"\"é\"":                          "",
		"\"\xff\"":                       "",
		"\"\x00\"":                       "",
		`"\x\y"`:                         "xy",
		`"x\"y"`:                         `x"y`,
		`"\\"`:                           `\`,
		`"\""`:                           `"`,
		`"x;boundary=y"`:                 "x;boundary=y",
		`"----=_Part/1:2?(a)<b>@c,[d]"`:  "----=_Part/1:2?(a)<b>@c,[d]",
		strings.Repeat("x", 70):          strings.Repeat("x", 70),
		strings.Repeat("x", 71):          "",
		q(strings.Repeat("x", 70)):       strings.Repeat("x", 70),
		q(strings.Repeat("x", 71)):       "",
		q(strings.Repeat("x", 70) + " "): "",
		q(strings.Repeat("x", 69) + " "): "",
		q(strings.Repeat(" ", 69) + "x"): strings.Repeat(" ", 69) + "x",
		q(strings.Repeat(`\x`, 70)):      strings.Repeat("x", 70),
		q(strings.Repeat(`\"`, 70)):      strings.Repeat(`"`, 70),
		q(strings.Repeat(`\"`, 71)):      "",
		q(strings.Repeat("x", 5000)):     "",
	} {
		for _, name := range []string{"boundary", "Boundary", "BOUNDARY", "bOUNDARY"} {
			kind(t, "multipart/mixed; "+name+"="+value, "MULTIPART", "MIXED", want)
			kind(t, "multipart/mixed; "+name+"="+value+"; boundary=no", "MULTIPART", "MIXED", want)
			kind(t, "multipart/mixed; "+name+"="+value+"; BOUNDARY=\"no\"", "MULTIPART", "MIXED", want)
			kind(t, "x/y; a=b; "+name+"="+value, "X", "Y", want)
			noKind(t, "x/y; boundary=no; "+name+"="+value+";")
		}
		for _, name := range []string{"boundar", "boundarys", "x-boundary", "boundary*", "b", "bound_ry"} {
			kind(t, "a/b; "+name+"="+value, "A", "B", "")
			kind(t, "a/b; "+name+"="+value+"; boundary=yes", "A", "B", "yes")
		}
	}
}

func q(s string) string { return `"` + s + `"` }

// TestP10_4Folded has the field as Parse returns it.
func TestP10_4Folded(t *testing.T) {
	l, _ := header.Parse([]byte("Subject: x\r\ncontent-type: Multipart/Mixed;\r\n\tcharset=utf-8 ;\r\n boundary=\r\n \"=_a\r\n b\"\r\n\r\n"))
	kindOf(t, l, "MULTIPART", "MIXED", "=_a b")
}
