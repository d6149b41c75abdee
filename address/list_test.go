package address_test

import (
	"slices"
	"strings"
	"testing"

	"estafette/address"
	"estafette/api"
)

func list(t *testing.T, s string, want ...api.Addr) {
	t.Helper()
	if l, e := address.List(s); e != api.OK || !slices.Equal(l, want) {
		t.Errorf("List(%q): %q, %d; want %q", s, l, e, want)
	}
}

func noList(t *testing.T, s string) {
	t.Helper()
	if l, e := address.List(s); e != api.ErrAddr || len(l) > 0 {
		t.Errorf("List(%q): %q, %d; want ErrAddr", s, l, e)
	}
}

func TestP9_3Addresses(t *testing.T) {
	ab, cd := api.Addr{Local: "a", Domain: "b"}, api.Addr{Local: "c.x", Domain: "d.y"}
	list(t, "a@b", ab)
	list(t, "a@b,c.x@d.y", ab, cd)
	list(t, "a@b,a@b,c.x@d.y,a@b", ab, ab, cd, ab)
	for _, s := range []string{" a@b", "a@b ", "\ta@b\t", "  a@b", " \t a@b \t "} {
		list(t, s, ab)
		list(t, s+",c.x@d.y", ab, cd)
		list(t, "c.x@d.y,"+s, cd, ab)
	}
	for _, s := range []string{"-@b", "!#$%&'*+-/=?^_{|}~\x60@x-1.y", strings.Repeat("a", 64) + "@" + strings.Repeat("b", 64)} {
		a, e := address.Parse(s)
		if e != api.OK {
			t.Error(s)
		}
		list(t, s, a)
		list(t, s+", "+s, a, a)
	}
}

func TestP9_3Names(t *testing.T) {
	for phrase, name := range map[string]string{
		"x":                                   "x",
		"x ":                                  "x",
		" x\t":                                "x",
		"x y":                                 "x y",
		"x  \t y \t":                          "x y",
		"x\ty":                                "x y",
		"x y z w":                             "x y z w",
		"Ann B.":                              "Ann B.",
		".":                                   ".",
		"..":                                  "..",
		". .":                                 ". .",
		".x.":                                 ".x.",
		"x..y":                                "x..y",
		"-":                                   "-",
		atoms:                                 atoms,
		"a.b":                                 "a.b",
		`""`:                                  "",
		` "" `:                                "",
		`"" ""`:                               " ",
		`""""`:                                " ",
		`"" x`:                                " x",
		`x ""`:                                "x ",
		`x"" y`:                               "x  y",
		`"x"`:                                 "x",
		`"x" `:                                "x",
		`"x" "y"`:                             "x y",
		`"x""y"`:                              "x y",
		`x"y"`:                                "x y",
		`"x"y`:                                "x y",
		`x"y"z`:                               "x y z",
		`x "y" z`:                             "x y z",
		`"x"y"z"`:                             "x y z",
		`"x  y"`:                              "x  y",
		`" x "`:                               " x ",
		"\"\t\"":                              "\t",
		`" " " "`:                             "   ",
		`"x, y"`:                              "x, y",
		`"x <a@b>"`:                           "x <a@b>",
		`"c@d, e@f"`:                          "c@d, e@f",
		`"c@d" e`:                             "c@d e",
		`"(x);:[]"`:                           "(x);:[]",
		`"\""`:                                `"`,
		`"\\"`:                                `\`,
		`"\\\""`:                              `\"`,
		`"\"\\"`:                              `"\`,
		`"\x\y"`:                              "xy",
		`"\n\r\t\0"`:                          "nrt0",
		`"\ \,"`:                              " ,",
		`"x\\" "y\""`:                         `x\ y"`,
		`"x, \"y"z`:                           `x, "y z`,
		"\"\x00\x7f\x80\xff\"":                "\x00\x7f\x80\xff",
		"\"\\\x00\\\x7f\\\xff\"":              "\x00\x7f\xff",
		"\"é\" \"\\é\"":                       "é é",
		"\"\xc3\"\"\xa9\"":                    "\xc3 \xa9",
		strings.Repeat("x ", 1000):            strings.Repeat("x ", 999) + "x",
		`"` + strings.Repeat("x", 5000) + `"`: strings.Repeat("x", 5000),
	} {
		want := api.Addr{Name: name, Local: "a.b", Domain: "c.d"}
		list(t, phrase+"<a.b@c.d>", want)
		list(t, phrase+" <a.b@c.d>", want)
		list(t, phrase+"\t \t<a.b@c.d> \t ", want)
		list(t, " "+phrase+"<a.b@c.d>", want)
		list(t, "e@f,"+phrase+"<a.b@c.d>,g@h", api.Addr{Local: "e", Domain: "f"}, want, api.Addr{Local: "g", Domain: "h"})
		list(t, phrase+"<a.b@c.d> , "+phrase+"<a.b@c.d>", want, want)
	}
}

func TestP9_3NoPhrase(t *testing.T) {
	for _, phrase := range []string{
		"", " ", "\t ", "x@", "@", "x@y", "x@y ", "x y@z", "x @y", "x,", "x, ", ",", "<", "x <", ">", "x >", "x<a@b>", "x <a@b> y",
		"é", "x é", "\xff", "x\x00", "x\x7f", "x\r", "x\n", "x\r\n ", "\r\n x", "\vx", "x\u00a0", "x:", "x;", "(x)", "x (y)", "[x]", "x\\y", "\\x", "\\\"x\"",
		`"`, `"x`, `x"`, `"\"`, `"x\`, `"x\"`, `"\\\"`, `"""`, `"x" "`, `"x"y"`, `x "y`,
		"\"\r\"", "\"\n\"", "\"x\r\n\"", "\"x\r\n y\"", "\"\\\r\"", "\"\\\n\"", "\"x\\\r\n y\"", "\"x\" \"\n\"",
	} {
		noList(t, phrase+"<a@b>")
		noList(t, phrase+" <a@b>")
		noList(t, "c@d,"+phrase+"<a@b>")
		noList(t, phrase+"<a@b>,c@d")
	}
}

func TestP9_3EachByte(t *testing.T) {
	for n := range 256 {
		c := string([]byte{byte(n)})
		switch {
		case strings.Contains(atoms, c) || c == ".":
			list(t, c+"<a@b>", api.Addr{Name: c, Local: "a", Domain: "b"})
			list(t, "x"+c+"y <a@b>", api.Addr{Name: "x" + c + "y", Local: "a", Domain: "b"})
		case c == " " || c == "\t":
			list(t, c+"x"+c+"y"+c+"<a@b>"+c, api.Addr{Name: "x y", Local: "a", Domain: "b"})
		default:
			noList(t, c+"<a@b>")
			noList(t, "x"+c+"y <a@b>")
		}
		switch c {
		case "\r", "\n":
			noList(t, `"x`+c+`y" <a@b>`)
			noList(t, `"x\`+c+`y" <a@b>`)
		case `"`, `\`:
			list(t, `"x\`+c+`y" <a@b>`, api.Addr{Name: "x" + c + "y", Local: "a", Domain: "b"})
		default:
			list(t, `"x`+c+`y" <a@b>`, api.Addr{Name: "x" + c + "y", Local: "a", Domain: "b"})
			list(t, `"x\`+c+`y" <a@b>`, api.Addr{Name: "x" + c + "y", Local: "a", Domain: "b"})
		}
	}
}

// TestP9_3EachByteBehindAnAddress: only blanks may follow.
func TestP9_3EachByteBehindAnAddress(t *testing.T) {
	for n := range 256 {
		c := string([]byte{byte(n)})
		blank := c == " " || c == "\t"
		domain := strings.Contains(letters+digits, c)
		switch {
		case blank:
			list(t, "a@b"+c+" ", api.Addr{Local: "a", Domain: "b"})
			list(t, "x <a@b>"+c+" ", api.Addr{Name: "x", Local: "a", Domain: "b"})
		case domain:
			list(t, "a@b"+c+" ", api.Addr{Local: "a", Domain: "b" + c})
			list(t, "x <a@b"+c+">", api.Addr{Name: "x", Local: "a", Domain: "b" + c})
		default:
			noList(t, "a@b"+c+" ")
		}
		if !blank {
			noList(t, "x <a@b>"+c+" ")
		}
		if !domain {
			noList(t, "x <a@b"+c+"> ")
		}
		noList(t, "x <"+c+" a@b>")
		noList(t, "x <a@b "+c+">")
	}
}

func TestP9_3NotTheForm(t *testing.T) {
	for _, s := range []string{
		"", " ", "\t", ",", ",,", " , ", ",a@b", "a@b,", "a@b, ", "a@b,,c@d", "a@b, ,c@d", ", a@b", "x <a@b>,", ",x <a@b>",
		"a", "a.b", "x y", `"x"`, `"x" y`, "x,", "x, y <a@b>", "a@b, x", "a@b x", "a@b x <c@d>", "a@b c@d", "a@b <c@d>", "a@b<c@d>", "a@b\"x\"", "a@b \"x\"",
		"<a@b>", " <a@b>", "<>", "<a@b>, c@d", "c@d, <a@b>", "<x> <a@b>",
		"x <>", "x < a@b>", "x <a@b >", "x <\ta@b>", "x <a@b\t>", "x < >", "x <a @b>", "x <a@ b>", "x <a@b", "x <a@b,", "x <a@b, y>", "x <a@b,c@d>", "x <", "x >", "x a@b>",
		"x <<a@b>>", "x <<a@b>", "x <a@b>>", "x <a@b> <c@d>", "x <a@b><c@d>", "x <a@b> y", "x <a@b>y", "x <a@b> c@d", "x <a@b> \"y\"", "x <a@b>;", "x <y <a@b>>", "x <\"a\"@b>",
		"x <a>", "x <a..b@c>", "x <.a@b>", "x <a@-b>", "x <a@b@c>", "x <a@b_c>", "x <@b>", "x <a@>", "x <@c:a@b>", "x: a@b;", "x: a@b, c@d;",
		"a..b@c", ".a@b", "a.@b", "a@.b", "a@b.", "a@-b", "a@b-", "a@b@c", "a@", "@b", "a @b", "a@ b", "a@b_c", "\"a\"@b", "x\"y\"@b", "\"x\" a@b",
		"a@b;c@d", "a@b\r\n", "\r\na@b", "a@b,\r\n c@d", "a@b\x00", "\x00", "\xff", "a@b\xff", "(x) a@b", "a@b (x)", "x (y) <a@b>", "mailto:a@b",
		strings.Repeat("a", 65) + "@b", "a@" + strings.Repeat("b", 65), "x <" + strings.Repeat("a", 65) + "@b>", "x <a@" + strings.Repeat("b", 65) + ">",
	} {
		noList(t, s)
		noList(t, " "+s+" ")
		noList(t, "c@d, "+s)
		noList(t, s+" ,c@d")
	}
}

// many returns a field of n addresses of either kind, and what is in it.
func many(n int) ([]string, []api.Addr) {
	var texts []string
	var l []api.Addr
	for i := range n {
		local := "a" + strings.Repeat("b", i%60)
		a := api.Addr{Local: local, Domain: "c"}
		text := local + "@c"
		if i%3 == 1 {
			a.Name, text = "x, "+local, "\"x, "+local+"\"<"+text+">"
		}
		texts, l = append(texts, text), append(l, a)
	}
	return texts, l
}

func TestP9_3TooMany(t *testing.T) {
	for n := 1; n <= 16; n++ {
		texts, want := many(n)
		list(t, strings.Join(texts, ","), want...)
		list(t, " "+strings.Join(texts, " ,\t")+" ", want...)
	}
	for _, n := range []int{17, 18, 32, 33, 1000} {
		texts, _ := many(n)
		if l, e := address.List(strings.Join(texts, ", ")); e != api.ErrLong || len(l) > 0 {
			t.Errorf("%d addresses: %q, %d; want ErrLong", n, l, e)
		}
	}
}

// TestP9_3FormAheadOfNumber has a fault among too many addresses, at each place.
func TestP9_3FormAheadOfNumber(t *testing.T) {
	for _, n := range []int{16, 17, 18, 40} {
		for i := range n {
			for _, fault := range []string{"", "a", "a@-b", "<a@b>", "x <a@b", "\"x <a@b>", "a@b c@d"} {
				texts, _ := many(n)
				texts[i] = fault
				noList(t, strings.Join(texts, ","))
			}
		}
		texts, _ := many(n)
		noList(t, strings.Join(texts, ",")+",")
		noList(t, strings.Join(texts, ",")+" x")
		noList(t, strings.Join(texts, ",")+"\r\n")
	}
}

func TestP9_3ResultsBelongToTheCaller(t *testing.T) {
	const s = "x <a@b>, c@d"
	l, _ := address.List(s)
	l[0], l[1] = api.Addr{Name: "changed"}, api.Addr{}
	list(t, s, api.Addr{Name: "x", Local: "a", Domain: "b"}, api.Addr{Local: "c", Domain: "d"})
}

// TestP9_3LongTexts: the effort does not grow faster than the text.
func TestP9_3LongTexts(t *testing.T) {
	const n = 1 << 21
	for _, s := range []string{"a", " ", ".", "@", ",", "<", ">", `"`, `""`, `\`, `\"`, "a ", `a"b"`, "x <", "a@b ", "<a@b>", "a@"} {
		noList(t, strings.Repeat(s, n/len(s)))
		noList(t, `"`+strings.Repeat(`\"`, n/2)+strings.Repeat(s, 10))
	}
	list(t, strings.Repeat(" ", n)+strings.Repeat("x", n)+strings.Repeat(" ", n)+"<a@b>"+strings.Repeat("\t", n), api.Addr{Name: strings.Repeat("x", n), Local: "a", Domain: "b"})
	list(t, strings.Repeat(`x"y"`, n/4)+"<a@b>", api.Addr{Name: strings.Repeat(" x y", n/4)[1:], Local: "a", Domain: "b"})
	if _, e := address.List(strings.Repeat("a@b,", n/4) + "a@b"); e != api.ErrLong {
		t.Error(e)
	}
}
