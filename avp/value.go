package avp

import (
	"unicode/utf8"

	"trunkline/api"
)

const (
	size32 = 4 // bytes of a number of 32 bits
	size64 = 8
)

// The two forms of an Address: two bytes say which family it is of, and the others are the address itself.
const (
	family4 = 1
	family6 = 2
	size4   = 2 + 4
	size6   = 2 + 16
)

// Fits tells whether data is a value of a type.
func Fits(kind int, data []byte) api.Errno {
	if kind < api.Octets || kind > api.Address {
		return api.ErrArg
	}
	if n := numberSize(kind); n != 0 && len(data) != n {
		return api.ErrShort
	}
	if !isValue(kind, data) {
		return api.ErrRange
	}
	return api.OK
}

// Least returns how many bytes the shortest value of a type has.
func Least(kind int) int {
	switch kind {
	case api.Identity:
		return 1
	case api.Address:
		return size4
	}
	return numberSize(kind)
}

// numberSize returns how many bytes the numbers of a type have, or 0 if it is no type of numbers.
func numberSize(kind int) int {
	switch kind {
	case api.Integer32, api.Unsigned32, api.Float32:
		return size32
	case api.Integer64, api.Unsigned64, api.Float64:
		return size64
	}
	return 0
}

// isValue reports whether data, of a size that may be, is a value of a type: any bytes are a number, or Octets.
func isValue(kind int, data []byte) bool {
	switch kind {
	case api.Text:
		return utf8.Valid(data)
	case api.Identity:
		return isIdentity(data)
	case api.Address:
		return isAddress(data)
	case api.Grouped:
		_, _, e := Get(data)
		return e == api.OK
	}
	return true
}

// isIdentity reports whether b is the name of a host or a realm.
func isIdentity(b []byte) bool {
	for _, x := range b {
		if !isOfName(x) {
			return false
		}
	}
	return len(b) >= 1 && len(b) <= api.MaxName
}

// isOfName reports whether a name may have this byte.
func isOfName(x byte) bool {
	return x >= 'a' && x <= 'z' || x >= '0' && x <= '9' || x == '.' || x == '-'
}

// isAddress reports whether b is an address of one of the two forms.
func isAddress(b []byte) bool {
	switch len(b) {
	case size4:
		return b[0] == 0 && b[1] == family4
	case size6:
		return b[0] == 0 && b[1] == family6
	}
	return false
}
