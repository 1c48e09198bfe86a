package runs

import (
	"spillway/api"
	"spillway/words"
)

// Head is how many bytes of a block are not for rows: the rows' sum, and which
// block of which file it is.
const Head = 2 * words.Size

// seal is the text of a file's block with some rows.
func seal(file, n int, body []byte) string {
	text := make([]byte, 0, Head+len(body))
	text = words.Append(text, sumOf(string(body)))
	text = words.Append(text, place(file, n))
	return string(append(text, body...))
}

// opened is what seal was given; it gives up, if the text is not what seal
// has made for that block.
func opened(file, n int, text string) string {
	if len(text) < Head {
		panic(api.ErrBroken)
	}
	sum, where, body := words.Of(text), words.Of(text[words.Size:]), text[Head:]
	if where != place(file, n) || sum != sumOf(body) {
		panic(api.ErrBroken)
	}
	return body
}

func place(file, n int) uint64 { return uint64(file)<<32 + uint64(n) }

// sumOf takes in the bytes one by one (FNV-1a): as each step is one to one,
// two texts that differ in one byte never have the same sum.
func sumOf(body string) uint64 {
	const start, prime = 14695981039346656037, 1099511628211
	sum := uint64(start)
	for i := range len(body) {
		sum = (sum ^ uint64(body[i])) * prime
	}
	return sum
}
