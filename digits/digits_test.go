package digits_test

import (
	"testing"

	"peerage/digits"
)

func TestHex(t *testing.T) {
	for _, c := range []struct {
		b    []byte
		want string
	}{
		{nil, ""}, {[]byte{0}, "00"}, {[]byte{1, 0x9a, 0xff}, "019aff"}, {[]byte{0x23, 0x45, 0x67, 0x89, 0xab, 0xcd, 0xef}, "23456789abcdef"},
	} {
		if s := digits.Hex(c.b); s != c.want {
			t.Error(c, s)
		}
	}
}
