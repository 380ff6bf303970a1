package text

import "grapnel/api"

const (
	wide = 8 // bytes of a word
	bits = 8 // of a byte
)

// eight is a word's bytes, the lowest bits first.
type eight [wide]byte

func bytesOf(w api.Word) eight {
	var b eight
	for i := range b {
		b[i] = byte(w >> (bits * i))
	}
	return b
}

func (b eight) word() api.Word {
	w := api.Word(0)
	for i, c := range b {
		w |= api.Word(c) << (bits * i)
	}
	return w
}

// begin takes as many bytes of a text's rest as fit. Where there is space left the text is at its end: the last byte says how much, so that a nought of the text is told from what fills up.
func begin(rest string) eight {
	var b eight
	if n := copy(b[:], rest); n < wide {
		b[wide-1] = byte(wide - 1 - n)
	}
	return b
}

// end tells how many of a text's bytes its last field has, if it may be a last field.
func (b eight) end() (int, bool) {
	left := int(b[wide-1])
	if left > wide-1 {
		return 0, false
	}
	n := wide - 1 - left
	for _, c := range b[n : wide-1] {
		if c != 0 {
			return 0, false
		}
	}
	return n, true
}
