package lex

import "augur/api"

func isLetter(b byte) bool {
	return b >= 'A' && b <= 'Z' || b >= 'a' && b <= 'z' || b == '_'
}

func isDigit(b byte) bool { return b >= '0' && b <= '9' }

// bareLen is how many bytes of a text, from its front on, a word or a bare name
// could take: 0, if none begins there.
func bareLen(s string) int {
	for i := range len(s) {
		if !isLetter(s[i]) && (i == 0 || !isDigit(s[i])) {
			return i
		}
	}
	return len(s)
}

func isWord(s string) bool {
	switch s {
	case "true", "false", "X", "F", "G", "U", "R", "W", "M", "Y", "Z", "O", "H", "S", "T":
		return true
	}
	return false
}

// quotable tells whether all of a text may stand between two quotes, however
// long it is.
func quotable(s string) bool {
	for i := range len(s) {
		if b := s[i]; b < 0x20 || b > 0x7e || b == '"' || b == '\\' {
			return false
		}
	}
	return true
}

func goodLen(name string) bool { return len(name) > 0 && len(name) <= api.MaxName }
