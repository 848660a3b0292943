// Package codec is layer 1: numbers of fixed length, checksums and frames (see shared/doc/01-codec.md).
package codec

import "pagemend/api"

const (
	maxNumber  = 8                 // bytes of the longest number
	lengthSize = 4                 // bytes of the length before a payload
	sumSize    = 4                 // bytes of the checksum behind a payload
	maxPayload = api.MaxBlob + 200 // bytes of the longest payload: an entry with the longest Blob, and its other fields
)

// remainders are those of the half bytes 0 to 15, divided by the reflected polynomial 0x82F63B78.
var remainders = [16]uint32{
	0x00000000, 0x105EC76F, 0x20BD8EDE, 0x30E349B1,
	0x417B1DBC, 0x5125DAD3, 0x61C69362, 0x7198540D,
	0x82F63B78, 0x92A8FC17, 0xA24BB5A6, 0xB21572C9,
	0xC38D26C4, 0xD3D3E1AB, 0xE330A81A, 0xF36E6F75,
}

// validSize reports whether there are numbers of this length.
func validSize(size int) bool { return size >= 1 && size <= maxNumber }

// Put returns s with the lowest size bytes of n behind it, the lowest first.
func Put(s string, n, size int) string {
	if !validSize(size) {
		return s
	}
	var b [maxNumber]byte
	for i := range size {
		b[i] = byte(n >> (8 * i))
	}
	return s + string(b[:size])
}

// Get returns the number in the size bytes of s from the index at on.
func Get(s string, at, size int) (int, api.Errno) {
	if !validSize(size) || at < 0 {
		return 0, api.ErrRange
	}
	if at > len(s)-size { // a sum of at and size could wrap around
		return 0, api.ErrShort
	}
	n := 0
	for i := range size {
		n |= int(s[at+i]) << (8 * i)
	}
	return n, api.OK
}

// Sum returns the CRC-32C of s.
func Sum(s string) uint32 {
	c := ^uint32(0)
	for i := range len(s) {
		c ^= uint32(s[i])
		c = c>>4 ^ remainders[c&15]
		c = c>>4 ^ remainders[c&15]
	}
	return ^c
}

// Frame returns the length of a payload, the payload, and the checksum of both; nothing if the payload is too long.
func Frame(payload string) string {
	if len(payload) > maxPayload {
		return ""
	}
	body := Put("", len(payload), lengthSize) + payload
	return Put(body, int(Sum(body)), sumSize)
}

// Unframe returns the payload of the frame that begins at the index at of s, and the index behind it.
func Unframe(s string, at int) (payload string, next int, e api.Errno) {
	if at < 0 || at > len(s) {
		return "", 0, api.ErrRange
	}
	length, e := Get(s, at, lengthSize)
	if e != api.OK {
		return "", 0, e
	}
	if length > maxPayload {
		return "", 0, api.ErrSize
	}
	begin := at + lengthSize
	end := begin + length
	sum, e := Get(s, end, sumSize)
	if e != api.OK {
		return "", 0, e
	}
	if sum != int(Sum(s[at:end])) {
		return "", 0, api.ErrSum
	}
	return s[begin:end], end + sumSize, api.OK
}
