package lex

const (
	opening     = "(*" // of a comment
	closing     = "*)"
	quote       = '"'
	escape      = '\\'
	hexDigits   = "0123456789abcdef"
	longestSign = 2 // bytes
)

func isBlank(c byte) bool { return c == ' ' || c == '\t' || c == '\n' || c == '\r' }

func isSmall(c byte) bool { return c >= 'a' && c <= 'z' || c == '_' }

func isGreat(c byte) bool { return c >= 'A' && c <= 'Z' }

func isDigit(c byte) bool { return c >= '0' && c <= '9' }

func isOfName(c byte) bool { return isSmall(c) || isGreat(c) || isDigit(c) || c == '\'' }

// isSign knows no _: that begins a name, if only of itself.
func isSign(s string) bool {
	switch s {
	case "(", ")", "[", "]", "[|", "|]", "{", "}", ";", ";;", ",", ":", "::", ":=", "<-", "->", "|", "||", "&&",
		"=", "<>", "<", ">", "<=", ">=", "+", "-", "*", "/", "^", "!", ".", ".(":
		return true
	}
	return false
}

// quoted tells a text's bytes as a source has them.
func quoted(s string) string {
	all := []byte{quote}
	for i := range len(s) {
		all = append(all, written(s[i])...)
	}
	return string(append(all, quote))
}

// written tells how a byte of a text is written: only what can be seen stands for itself.
func written(c byte) string {
	switch {
	case c == quote, c == escape:
		return string([]byte{escape, c})
	case c == '\n':
		return `\n`
	case c == '\t':
		return `\t`
	case c >= ' ' && c <= '~':
		return string([]byte{c})
	}
	return string([]byte{escape, 'x', hexDigits[c>>4], hexDigits[c&15]})
}
