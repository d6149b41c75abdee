package address

import (
	"strings"

	"estafette/api"
)

const maxList = 16

// List returns the addresses of a header's field, each with the name that goes with it.
func List(s string) ([]api.Addr, api.Errno) {
	r := reader{rest: s}
	l := []api.Addr{r.element()}
	for r.take(",") {
		a := r.element()
		if len(l) <= maxList { // one too many is enough to tell that they are, and all are read for faults
			l = append(l, a)
		}
	}
	if r.bad || r.rest != "" {
		return nil, api.ErrAddr
	}
	if len(l) > maxList {
		return nil, api.ErrLong
	}
	return l, api.OK
}

// reader takes a field apart from its beginning; it is bad as soon as something stands there that may not.
type reader struct {
	rest string
	bad  bool
}

func (r *reader) need(ok bool) { r.bad = r.bad || !ok }

// take takes a mark, if it stands next.
func (r *reader) take(mark string) bool {
	rest, ok := strings.CutPrefix(r.rest, mark)
	r.rest = rest
	return ok
}

// next takes a byte, which must be there.
func (r *reader) next() byte {
	if r.rest == "" {
		r.bad = true
		return 0
	}
	c := r.rest[0]
	r.rest = r.rest[1:]
	return c
}

// run takes all bytes up to the first one that is not of a kind.
func (r *reader) run(isByte func(byte) bool) string {
	n := count(r.rest, isByte)
	s := r.rest[:n]
	r.rest = r.rest[n:]
	return s
}

func (r *reader) blanks() { r.run(isBlank) }

// element takes what stands between two commas.
func (r *reader) element() api.Addr {
	r.blanks()
	var a api.Addr
	if r.isBare() {
		a = r.address()
	} else {
		a = r.named()
	}
	r.blanks()
	return a
}

// isBare tells an address without a name from a phrase, which may begin like it, but has no @.
func (r *reader) isBare() bool {
	return strings.HasPrefix(r.rest[count(r.rest, isWordByte):], "@")
}

func (r *reader) address() api.Addr {
	a, e := Parse(r.run(isAddressByte))
	r.need(e == api.OK)
	return a
}

func (r *reader) named() api.Addr {
	name := r.phrase()
	r.need(r.take("<"))
	a := r.address()
	r.need(r.take(">"))
	a.Name = name
	return a
}

// phrase takes one or more words, and returns them with single blanks between them.
func (r *reader) phrase() string {
	var words []string
	for read := r.wordReader(); read != nil; read = r.wordReader() {
		words = append(words, read())
		r.blanks()
	}
	r.need(len(words) > 0)
	return strings.Join(words, " ")
}

// wordReader returns what takes the word that stands next; nil if none does.
func (r *reader) wordReader() func() string {
	switch {
	case strings.HasPrefix(r.rest, `"`):
		return r.quoted
	case count(r.rest, isWordByte) > 0:
		return r.plain
	}
	return nil
}

func (r *reader) plain() string { return r.run(isWordByte) }

func (r *reader) quoted() string {
	var word []byte
	r.need(r.take(`"`))
	for !r.bad {
		switch c := r.next(); c {
		case '"':
			return string(word)
		case '\\':
			c = r.next()
			fallthrough // whatever it is, it stands for itself, but it may not end the line either
		default:
			r.need(c != '\r' && c != '\n')
			word = append(word, c)
		}
	}
	return ""
}

func isBlank(c byte) bool { return c == ' ' || c == '\t' }

func isWordByte(c byte) bool { return isAtomByte(c) || c == '.' }

func isAddressByte(c byte) bool { return isWordByte(c) || c == '@' }
