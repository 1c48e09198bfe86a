// Package words turns numbers into eight bytes, the high ones first, and back.
package words

// Size is how many bytes a number takes.
const Size = 8

// Append adds a number's bytes to a text.
func Append(text []byte, word uint64) []byte {
	for shift := 56; shift >= 0; shift -= 8 {
		text = append(text, byte(word>>shift))
	}
	return text
}

// Of is the number at the beginning of a text, which has all its bytes.
func Of(text string) uint64 {
	word := uint64(0)
	for i := range Size {
		word = word<<8 | uint64(text[i])
	}
	return word
}
