package header

import (
	"strings"

	"estafette/api"
	"estafette/codec"
)

const (
	maxBoundary = 70
	tokenMarks  = `()<>@,;:\"/[]?=` // the visible bytes that no type, subtype or name has
)

// Kind returns the type and subtype of which a message is, and the boundary of its parts.
func Kind(l []api.Field) (kind, sub, boundary string) {
	text, _ := Get(l, "Content-Type") // without the field it is empty, which has not its form
	r := reader{rest: strings.TrimLeft(text, blanks)}
	kind, sub = r.types()
	params := r.params()
	if r.bad {
		return "TEXT", "PLAIN", ""
	}
	boundary, _ = Get(params, "boundary")
	if !isBoundary(boundary) {
		boundary = ""
	}
	return codec.Great(kind), codec.Great(sub), boundary
}

func isBoundary(s string) bool {
	return len(s) <= maxBoundary && count(s, isPrintable) == len(s) && !strings.HasSuffix(s, " ")
}

func isPrintable(c byte) bool { return isGraphic(c) || c == ' ' }

// reader takes a field's value apart from its beginning; it is bad as soon as something stands there that may not.
type reader struct {
	rest string
	bad  bool
}

func (r *reader) need(ok bool) { r.bad = r.bad || !ok }

// take takes so many bytes, and the blanks behind them.
func (r *reader) take(n int) string {
	s := r.rest[:n]
	r.rest = strings.TrimLeft(r.rest[n:], blanks)
	return s
}

func (r *reader) mark(c string) {
	ok := strings.HasPrefix(r.rest, c)
	r.need(ok)
	if ok {
		r.take(len(c))
	}
}

func (r *reader) token() string {
	n := count(r.rest, isTokenByte)
	r.need(n > 0)
	return r.take(n)
}

func (r *reader) types() (kind, sub string) {
	kind = r.token()
	r.mark("/")
	return kind, r.token()
}

// params takes all parameters up to the end, each as a field of its own.
func (r *reader) params() []api.Field {
	var l []api.Field
	for !r.bad && r.rest != "" {
		r.mark(";")
		name := r.token()
		r.mark("=")
		l = append(l, api.Field{Name: name, Value: r.value()})
	}
	return l
}

func (r *reader) value() string {
	if strings.HasPrefix(r.rest, `"`) {
		return r.quoted()
	}
	return r.token()
}

// quoted takes a string between quotation marks, of which the first stands next.
func (r *reader) quoted() string {
	var value []byte
	escaped := false
	for i := 1; i < len(r.rest); i++ {
		c := r.rest[i]
		switch {
		case escaped:
			value, escaped = append(value, c), false
		case c == '\\':
			escaped = true
		case c == '"':
			r.take(i + 1)
			return string(value)
		default:
			value = append(value, c)
		}
	}
	r.bad = true
	return ""
}

func isTokenByte(c byte) bool { return isGraphic(c) && strings.IndexByte(tokenMarks, c) < 0 }
