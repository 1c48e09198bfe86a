// Package records: rows with their numbers, and the bytes that they take.
package records

import (
	"strings"

	"spillway/api"
	"spillway/words"
)

// A text's length, and a value's kind, take so many bytes.
const (
	lengthSize = 2
	kindSize   = 1
	flagSize   = 1
)

// Record is a row and its number, by which rows that are alike stay in the
// order in which they came.
type Record struct {
	Number int
	Row    api.Row
}

// Size is a row's size: just as many bytes as Append writes for it.
func Size(row api.Row) int {
	size := words.Size
	for _, v := range row {
		size += valueSize(v)
	}
	return size
}

func valueSize(v api.Value) int {
	switch v.Kind {
	case api.Int:
		return kindSize + words.Size
	case api.Text:
		return kindSize + lengthSize + len(v.S)
	case api.Flag:
		return kindSize + flagSize
	}
	return kindSize
}

// Append adds a record's bytes to a text.
func Append(text []byte, r Record) []byte {
	text = words.Append(text, uint64(r.Number))
	for _, v := range r.Row {
		text = appendValue(text, v)
	}
	return text
}

func appendValue(text []byte, v api.Value) []byte {
	text = append(text, byte(v.Kind))
	switch v.Kind {
	case api.Int:
		return words.Append(text, uint64(v.N))
	case api.Text:
		text = append(text, byte(len(v.S)>>8), byte(len(v.S)))
		return append(text, v.S...)
	case api.Flag:
		return append(text, byte(v.N))
	}
	return text
}

// Take is the record, of so many columns, at the beginning of a text that
// Append has made, and the rest of that text.
func Take(text string, cols int) (Record, string) {
	r := Record{Number: int(words.Of(text)), Row: make(api.Row, cols)}
	text = text[words.Size:]
	for col := range r.Row {
		r.Row[col], text = takeValue(text)
	}
	return r, text
}

// takeValue copies a text's bytes: a piece of the block's text would keep the
// whole block in memory for as long as the row is.
func takeValue(text string) (api.Value, string) {
	kind := int(text[0])
	text = text[kindSize:]
	switch kind {
	case api.Int:
		return api.Value{Kind: kind, N: int(words.Of(text))}, text[words.Size:]
	case api.Text:
		end := lengthSize + int(text[0])<<8 + int(text[1])
		return api.Value{Kind: kind, S: strings.Clone(text[lengthSize:end])}, text[end:]
	case api.Flag:
		return api.Value{Kind: kind, N: int(text[0])}, text[flagSize:]
	}
	return api.Value{}, text
}
