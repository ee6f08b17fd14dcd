// Package dns is layer 1: labels, names, and keys. See shared/doc/01-dns.md.
package dns

import (
	"strings"

	"toll/api"
)

// Label: is a text a label?
func Label(s string) bool {
	if len(s) == 0 || len(s) > api.MaxLabel {
		return false
	}
	// By octets, not runes: a rune's octets past ASCII are never a label's.
	for i := range len(s) {
		if !inLabel(s[i]) {
			return false
		}
	}
	return s[0] != '-' && s[len(s)-1] != '-'
}

// Name: is a text a name?
func Name(s string) bool {
	// Ahead of the labels, so that a text without end is refused at once.
	if len(s) > api.MaxName {
		return false
	}
	for label := range strings.SplitSeq(s, ".") {
		if !Label(label) {
			return false
		}
	}
	return true
}

// Labels is a name's labels, in order; none, if it is no name.
func Labels(s string) []string {
	if !Name(s) {
		return nil
	}
	var out []string
	for label := range strings.SplitSeq(s, ".") {
		out = append(out, label)
	}
	return out
}

// Fold is a text with small letters for A to Z.
func Fold(s string) string {
	// The library's ToLower and Map would change octets that are no UTF-8.
	b := []byte(s)
	for i, c := range b {
		if 'A' <= c && c <= 'Z' {
			b[i] = c - 'A' + 'a'
		}
	}
	return string(b)
}

// Under: is a name one label or more, a dot, and another name?
func Under(name, above string) bool {
	// As both are names, what stands ahead of the dot is labels for sure.
	return Name(name) && Name(above) && strings.HasSuffix(name, "."+above)
}

// Key is the key of a space and a name.
func Key(space, name string) (string, api.Errno) {
	if !maySpace(space) || !Name(name) {
		return "", api.ErrArg
	}
	return space + "/" + name, api.OK
}

// Cut is a key's space, and its name.
func Cut(key string) (string, string, api.Errno) {
	// A second / would be an octet of the name, which then is none.
	space, name, found := strings.Cut(key, "/")
	if !found || !maySpace(space) || !Name(name) {
		return "", "", api.ErrForm
	}
	return space, name, api.OK
}

func inLabel(c byte) bool {
	return 'a' <= c && c <= 'z' || '0' <= c && c <= '9' || c == '-'
}

func maySpace(s string) bool {
	return s == "" || Label(s)
}
