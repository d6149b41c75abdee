package codec

import (
	"strings"

	"estafette/api"
)

const (
	alphabet  = "ABCDEFGHIJKLMNOPQRSTUVWXYZabcdefghijklmnopqrstuvwxyz0123456789+/"
	padding   = '='
	groupSize = 3 // bytes that make four letters
)

// Encode64 returns the Base64 encoding of b.
func Encode64(b []byte) string {
	var s strings.Builder
	for len(b) > 0 {
		n := min(len(b), groupSize)
		letters := encodeGroup(b[:n])
		s.Write(letters[:])
		b = b[n:]
	}
	return s.String()
}

// encodeGroup encodes one to three bytes.
func encodeGroup(b []byte) [4]byte {
	var g [groupSize]byte
	copy(g[:], b)
	bits := int(g[0])<<16 | int(g[1])<<8 | int(g[2])
	letters := [4]byte{padding, padding, padding, padding}
	for k := range len(b) + 1 {
		letters[k] = alphabet[bits>>(18-6*k)&63]
	}
	return letters
}

// Decode64 returns the bytes whose Base64 encoding is s.
func Decode64(s string) ([]byte, api.Errno) {
	b, ok := decodeLetters(strings.TrimRight(s, string(padding)))
	if !ok || Encode64(b) != s { // an encoding has no more padding than it must, and only bits 0 behind its bytes
		return nil, api.ErrCode
	}
	return b, api.OK
}

// decodeLetters collects the bytes that letters have; bits that are no whole byte are left out.
func decodeLetters(s string) ([]byte, bool) {
	var b []byte
	bits, many := 0, 0
	for _, r := range s {
		six := strings.IndexRune(alphabet, r)
		if six < 0 {
			return nil, false
		}
		bits = bits<<6 | six
		many += 6
		if many >= 8 {
			many -= 8
			b = append(b, byte(bits>>many))
			bits &= 1<<many - 1
		}
	}
	return b, true
}
