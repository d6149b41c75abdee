package mime

import (
	"bytes"
	"strconv"
	"strings"

	"estafette/api"
	"estafette/codec"
)

// Structure returns what FETCH tells of a message's parts.
func Structure(b []byte) string {
	w := writer{message: b}
	w.part(Parse(b))
	return w.text.String()
}

// writer describes the parts of a message.
type writer struct {
	message []byte
	text    strings.Builder
}

func (w *writer) part(p api.Part) {
	describe := w.single
	if len(p.Parts) > 0 {
		describe = w.several
	}
	w.text.WriteString("(")
	describe(p)
	w.text.WriteString(")")
}

func (w *writer) single(p api.Part) {
	body := w.message[p.Body:p.To]
	words := []string{codec.Quote(p.Type), codec.Quote(p.Sub), "NIL NIL NIL", codec.Quote(p.Encoding), strconv.Itoa(len(body))}
	if p.Type == "TEXT" {
		words = append(words, strconv.Itoa(bytes.Count(body, []byte(crlf))))
	}
	w.text.WriteString(strings.Join(words, " "))
}

func (w *writer) several(p api.Part) {
	for i := range len(p.Parts) {
		w.part(p.Parts[i])
	}
	w.text.WriteString(" " + codec.Quote(p.Sub))
}
