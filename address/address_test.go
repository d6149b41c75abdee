package address_test

import (
	"strings"
	"testing"

	"estafette/address"
	"estafette/api"
)

const (
	letters = "abcdefghijklmnopqrstuvwxyzABCDEFGHIJKLMNOPQRSTUVWXYZ"
	digits  = "0123456789"
	atoms   = letters + digits + "!#$%&'*+-/=?^_{|}~\x60"
)

// none is what an address is beside an error.
var none = api.Addr{}

func parse(t *testing.T, s, local, domain string) {
	t.Helper()
	want := api.Addr{Local: local, Domain: domain}
	if a, e := address.Parse(s); e != api.OK || a != want {
		t.Errorf("Parse(%q): %q, %d; want %q", s, a, e, want)
	}
	if x, e := address.Print(want); e != api.OK || x != s {
		t.Errorf("Print(%q): %q, %d; want %q", want, x, e, s)
	}
}

func noParse(t *testing.T, s string) {
	t.Helper()
	if a, e := address.Parse(s); e != api.ErrAddr || a != none {
		t.Errorf("Parse(%q): %q, %d; want ErrAddr", s, a, e)
	}
}

func noPrint(t *testing.T, a api.Addr) {
	t.Helper()
	if s, e := address.Print(a); e != api.ErrAddr || s != "" {
		t.Errorf("Print(%q): %q, %d; want ErrAddr", a, s, e)
	}
}

func TestP9_1Parse(t *testing.T) {
	for _, c := range []struct{ local, domain string }{
		{"a", "b"},
		{"A", "B"},
		{"0", "9"},
		{"a.b", "c.d"},
		{"a.b.c.d", "e.f.g.h"},
		{"ann", "estafette"},
		{"Ann.B", "mail-1.Example.ORG"},
		{"-", "a-b"},
		{"-.-", "a--b.1-2"},
		{"a-", "b"},
		{"-a", "b"},
		{"a+b=c", "0.0.0.0"},
		{"!#$%&'*+-/=?^_{|}~\x60", "x-1.y"},
		{atoms[:64], letters + digits},
	} {
		parse(t, c.local+"@"+c.domain, c.local, c.domain)
	}
}

func TestP9_1EachByte(t *testing.T) {
	for n := range 256 {
		c := string([]byte{byte(n)})
		for _, local := range []string{c, c + "x", "x" + c, "x" + c + "y", "x." + c, c + ".y"} {
			if strings.Contains(atoms, c) || c == "." && local == "x.y" {
				parse(t, local+"@d", local, "d")
			} else {
				noParse(t, local+"@d")
				noPrint(t, api.Addr{Local: local, Domain: "d"})
			}
		}
		for _, domain := range []string{c, c + "x", "x" + c, "x" + c + "y", "x." + c, c + ".y", "a.b" + c + "c.d"} {
			inside := domain == "x"+c+"y" || domain == "a.b"+c+"c.d"
			if strings.Contains(letters+digits, c) || (c == "." || c == "-") && inside {
				parse(t, "l@"+domain, "l", domain)
			} else {
				noParse(t, "l@"+domain)
				noPrint(t, api.Addr{Local: "l", Domain: domain})
			}
		}
	}
}

func TestP9_1Length(t *testing.T) {
	for _, n := range []int{1, 2, 63, 64, 65, 66, 128, 4096} {
		for _, local := range []string{strings.Repeat("a", n), strings.Repeat("a.", n/2) + "bc"[:1+n%2], strings.Repeat("-", n)} {
			for _, domain := range []string{"d", strings.Repeat("d", 64), strings.Repeat("d", n), strings.Repeat("d.", n/2) + "ef"[:1+n%2]} {
				if len(local) <= 64 && len(domain) <= 64 {
					parse(t, local+"@"+domain, local, domain)
				} else {
					noParse(t, local+"@"+domain)
					noPrint(t, api.Addr{Local: local, Domain: domain})
				}
			}
		}
	}
}

func TestP9_1NoAddress(t *testing.T) {
	for _, s := range []string{
		"", "@", "@@", "a", "a@", "@b", "a.b", ".", ".@.", "a@.", ".@b",
		"a..b@c", ".a@b", "a.@b", "..a@b", "a@.b", "a@b.", "a@b..c", "a@..b", "a@b..",
		"a@-c", "a@c-", "a@-", "a@--", "a@c.-d", "a@c-.d", "a@c.-", "a@-.c", "a@c.d-", "a@-c.d",
		"a@b@c", "a@@b", "@a@b", "a@b@", "a@b_c", "a@b+c", "a@[1.2.3.4]",
		"a b@c", " a@b", "a@b ", "a @b", "a@ b", "\ta@b", "a@b\t", "a@b\r\n", "a@b\n", "a\n@b", "\x00a@b", "a@b\x00",
		"<a@b>", "x <a@b>", "a@b,c@d", "a@b,", "\"a\"@b", "\"a b\"@c", "a\\b@c", "a(b)@c", "a@b(c)", "a:b@c", "a;b@c",
		"é@b", "a@é", "a\xff@b", "a@b\xff", "a@\u212a", "\u212a@b", "a\uff20b", "a@b\u3002c", "a@\uff11",
	} {
		noParse(t, s)
	}
}

func TestP9_1Print(t *testing.T) {
	for _, name := range []string{"", "Ann", "\"", "\r\n", "<x@y>", "\x00\xff", strings.Repeat("n", 4096)} {
		if s, e := address.Print(api.Addr{Name: name, Local: "a.b", Domain: "C.d"}); e != api.OK || s != "a.b@C.d" {
			t.Errorf("%q: %q, %d", name, s, e)
		}
		noPrint(t, api.Addr{Name: name})
		noPrint(t, api.Addr{Name: name, Local: "a"})
		noPrint(t, api.Addr{Name: name, Domain: "a"})
	}
	for _, a := range []api.Addr{
		{Local: "a@b", Domain: "c"},
		{Local: "a", Domain: "b@c"},
		{Local: "@", Domain: "c"},
		{Local: "a@b", Domain: ""},
		{Local: "", Domain: "a@b"},
		{Local: "a", Domain: ".b"},
		{Local: "a.", Domain: "b"},
		{Local: "a", Domain: "-b"},
	} {
		noPrint(t, a)
	}
}

func path(t *testing.T, s string, want api.Addr) {
	t.Helper()
	if a, e := address.Path(s); e != api.OK || a != want {
		t.Errorf("Path(%q): %q, %d; want %q", s, a, e, want)
	}
}

func noPath(t *testing.T, s string) {
	t.Helper()
	if a, e := address.Path(s); e != api.ErrAddr || a != none {
		t.Errorf("Path(%q): %q, %d; want ErrAddr", s, a, e)
	}
}

func TestP9_2Path(t *testing.T) {
	path(t, "<>", api.Addr{})
	path(t, "<a@b>", api.Addr{Local: "a", Domain: "b"})
	path(t, "<Ann.B@Mail.example>", api.Addr{Local: "Ann.B", Domain: "Mail.example"})
	long := strings.Repeat("a", 64)
	path(t, "<"+long+"@"+long+">", api.Addr{Local: long, Domain: long})
	noPath(t, "<a"+long+"@"+long+">")
	noPath(t, "<"+long+"@"+long+"a>")
}

func TestP9_2NoPath(t *testing.T) {
	for _, s := range []string{
		"", "<", ">", "><", "< >", "<\t>", "<<>>", "<<>", "<>>", "<><>", " <>", "<> ", "<>\r\n", "<\x00>",
		"a@b", "<a@b", "a@b>", ">a@b<", "<<a@b>>", "<<a@b>", "<a@b>>", "<a@b><a@b>", "<a@b>,<c@d>", "<a@b,c@d>",
		"< a@b>", "<a@b >", " <a@b>", "<a@b> ", "<\ta@b>", "<a@b>\r\n", "x <a@b>", "x<a@b>", "<a@b>x", "\"x\" <a@b>", "<x <a@b>>",
		"<a>", "<@>", "<@b>", "<a@>", "<a..b@c>", "<a@-c>", "<a@b@c>", "<@x:a@b>", "<\"a\"@b>", "(a@b)", "[a@b]",
	} {
		noPath(t, s)
	}
}

func same(t *testing.T, a, b api.Addr, want bool) {
	t.Helper()
	if address.Same(a, b) != want || address.Same(b, a) != want {
		t.Errorf("Same(%q, %q) is not %v", a, b, want)
	}
}

func TestP9_4Same(t *testing.T) {
	a := api.Addr{Name: "Ann", Local: "ann", Domain: "Mail.example"}
	same(t, a, a, true)
	same(t, api.Addr{}, api.Addr{}, true)
	for domain, want := range map[string]bool{
		"Mail.example":    true,
		"mail.example":    true,
		"MAIL.EXAMPLE":    true,
		"mAIL.eXAMPLE":    true,
		"":                false,
		"mail":            false,
		"example":         false,
		"mail.exampl":     false,
		"mail.examples":   false,
		"mail.example.":   false,
		"mail.example ":   false,
		" mail.example":   false,
		"mail-example":    false,
		"ma\u0131l.com":   false,
		"mail\x0eexamp":   false,
		"mail.\x85xample": false,
	} {
		same(t, a, api.Addr{Local: "ann", Domain: domain}, want)
		same(t, a, api.Addr{Name: "ann", Local: "ann", Domain: domain}, want)
		same(t, a, api.Addr{Name: "Ann", Local: "ann", Domain: domain}, want)
	}
	for _, local := range []string{"", "Ann", "ANN", "anN", "an", "anna", "ann.", "ann ", "bob"} {
		same(t, a, api.Addr{Name: "Ann", Local: local, Domain: "Mail.example"}, false)
	}
	for _, domain := range []string{"\u212a.s", "k.\u017f", "\u212a.\u017f", "K\u200b.S"} {
		same(t, api.Addr{Local: "ann", Domain: "k.s"}, api.Addr{Local: "ann", Domain: domain}, false)
	}
	same(t, api.Addr{Name: "x"}, api.Addr{}, true)
	same(t, api.Addr{Local: "a"}, api.Addr{Domain: "a"}, false)
}

// TestP9_4EachByte has each pair of bytes as domains: only those that are the same letter in two cases are the same.
func TestP9_4EachByte(t *testing.T) {
	for i := range 256 {
		for j := range 256 {
			a, b := string([]byte{byte(i)}), string([]byte{byte(j)})
			k := strings.Index(letters, a)
			want := i == j || k >= 0 && letters[(k+26)%52] == byte(j)
			same(t, api.Addr{Local: "l", Domain: "x" + a}, api.Addr{Local: "l", Domain: "X" + b}, want)
			same(t, api.Addr{Local: "x" + a, Domain: "d"}, api.Addr{Local: "x" + b, Domain: "d"}, i == j)
		}
	}
}

func TestExamples(t *testing.T) {
	parse(t, "a.b@c.d", "a.b", "c.d")
	for _, s := range []string{"a..b@c", "a@-c", "a@b@c"} {
		noParse(t, s)
	}
	path(t, "<>", api.Addr{})
	path(t, "<a@b>", api.Addr{Local: "a", Domain: "b"})
	noPath(t, "< a@b>")
	list(t, "Ann B. <a@b>, c@d , \"x, \\\"y\" <e@f>", api.Addr{Name: "Ann B.", Local: "a", Domain: "b"}, api.Addr{Local: "c", Domain: "d"}, api.Addr{Name: "x, \"y", Local: "e", Domain: "f"})
	for _, s := range []string{"", "a@b,", "<a@b>"} {
		noList(t, s)
	}
}
