// Package order holds rows against each other by keys, and turns them into
// texts that are ordered, byte by byte, as the rows are.
package order

import (
	"spillway/api"
	"spillway/words"
)

// The first byte of each value's text keeps Nulls apart from all others, so
// that Down can turn the rest round and leave the Nulls where Last wants them.
const (
	nullAhead  byte = 0
	present    byte = 1
	nullBehind byte = 2
)

// A zero byte in a text is followed by zeroStays, the text's end is a zero
// byte followed by textEnds: so a text comes ahead of those that begin with
// it, and none of the encoded ones begins with another.
const (
	zero      byte = 0x00
	zeroStays byte = 0xff
	textEnds  byte = 0x00
)

// Encode is a row's text by some keys; empty, if a key is of no column.
func Encode(row api.Row, keys []api.Key) string {
	var text []byte
	for _, key := range keys {
		if key.Col < 0 || key.Col >= len(row) {
			return ""
		}
		text = appendValue(text, row[key.Col], key)
	}
	return string(text)
}

func appendValue(text []byte, v api.Value, key api.Key) []byte {
	switch {
	case v.Kind != api.Null:
		text = append(text, present)
	case key.Last:
		return append(text, nullBehind)
	default:
		return append(text, nullAhead)
	}
	start := len(text)
	text = appendPresent(text, v)
	if key.Down {
		turnRound(text[start:])
	}
	return text
}

func appendPresent(text []byte, v api.Value) []byte {
	switch v.Kind {
	case api.Int:
		return appendInt(text, v.N)
	case api.Text:
		return appendText(text, v.S)
	case api.Flag:
		return append(text, byte(v.N))
	}
	return text
}

// appendInt puts the high bytes first, and turns the sign's bit so that
// numbers below 0 come ahead of the others.
func appendInt(text []byte, n int) []byte {
	return words.Append(text, uint64(n)^1<<63)
}

func appendText(text []byte, s string) []byte {
	for i := range len(s) {
		text = append(text, s[i])
		if s[i] == zero {
			text = append(text, zeroStays)
		}
	}
	return append(text, zero, textEnds)
}

// turnRound reverses the order: this holds because none of the texts that it
// is given begins with another.
func turnRound(text []byte) {
	for i := range text {
		text[i] = ^text[i]
	}
}
