// Package cell is layer 1: cells, see shared/doc/01-cell.md.
package cell

import "distiller/api"

const (
	wordBytes = 8
	// A number's cell with this bit turned stands among others as the number does: those below 0 come first.
	signBit = uint64(1) << 63
	noByte  = byte(0)
	yesByte = byte(1)
)

// Int is the cell of a number.
func Int(n int) string {
	var b [1 + wordBytes]byte
	b[0] = api.KindInt
	u := uint64(n) ^ signBit
	for i := wordBytes; i > 0; i-- {
		b[i] = byte(u)
		u >>= 8
	}
	return string(b[:])
}

// Bool is the cell of yes, or no.
func Bool(yes bool) string {
	b := [2]byte{api.KindBool, noByte}
	if yes {
		b[1] = yesByte
	}
	return string(b[:])
}

// Text is the cell of a text. A text of more than api.MaxText bytes is taken too: Right tells that its cell may not be.
func Text(s string) string {
	return string(rune(api.KindText)) + s
}

// Kind is a cell's first byte, and api.KindNone of an empty one.
func Kind(c string) byte {
	if c == "" {
		return api.KindNone
	}
	return c[0]
}

// Num is the number of a cell that is one.
func Num(c string) (int, bool) {
	if Kind(c) != api.KindInt || !Right(c) {
		return 0, false
	}
	var u uint64
	for i := 1; i <= wordBytes; i++ {
		u = u<<8 | uint64(c[i])
	}
	return int(u ^ signBit), true
}

// Yes tells whether a cell is that of yes.
func Yes(c string) bool {
	return c == Bool(true)
}

// Right tells whether a text is a cell.
func Right(c string) bool {
	switch Kind(c) {
	case api.KindNone:
		// A text that begins with a byte 0 has this kind as well, and is no cell.
		return c == ""
	case api.KindBool:
		return len(c) == 2 && (c[1] == noByte || c[1] == yesByte)
	case api.KindInt:
		return len(c) == 1+wordBytes
	case api.KindText:
		return len(c) <= 1+api.MaxText
	}
	return false
}
