// Package digits writes bytes as hexadecimal digits; the texts of several layers have them.
package digits

const all = "0123456789abcdef"

// Hex returns two digits for each byte.
func Hex(b []byte) string {
	text := make([]byte, 0, 2*len(b))
	for _, x := range b {
		text = append(text, all[x>>4], all[x&15])
	}
	return string(text)
}
