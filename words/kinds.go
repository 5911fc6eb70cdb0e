package words

// All tells whether every byte of the text is of that kind.
func All(text string, is func(c byte) bool) bool {
	for i := range len(text) {
		if !is(text[i]) {
			return false
		}
	}
	return true
}

// IsFigure tells whether that is 0 to 9.
func IsFigure(c byte) bool { return '0' <= c && c <= '9' }

// IsSmall tells whether that is a to z.
func IsSmall(c byte) bool { return 'a' <= c && c <= 'z' }

// IsGreat tells whether that is A to Z.
func IsGreat(c byte) bool { return 'A' <= c && c <= 'Z' }

// IsSeen tells whether that is a byte from 33 to 126: one that can be seen.
func IsSeen(c byte) bool { return 33 <= c && c <= 126 }

func isOfLabel(c byte) bool { return IsSmall(c) || IsFigure(c) || c == '-' }
