package header_test

import (
	"bytes"
	"math"
	"reflect"
	"testing"

	"peerage/api"
	"peerage/header"
)

var extended = api.Options{Extended: true}

// head returns the bytes of a header, right or wrong.
func head(length, kind int) []byte {
	return append(bytes.Repeat([]byte{255}, 16), byte(length>>8), byte(length), byte(kind))
}

func TestNumbersOfKinds(t *testing.T) { // P4.1
	for _, c := range []struct {
		kind, least, plain, extended int
		name                         string
	}{
		{1, 29, 4096, 4096, "OPEN"}, {2, 23, 4096, 65535, "UPDATE"}, {3, 21, 4096, 65535, "NOTIFICATION"},
		{4, 19, 19, 19, "KEEPALIVE"}, {5, 23, 23, 23, "ROUTE-REFRESH"},
		{0, 0, 0, 0, ""}, {6, 0, 0, 0, ""}, {-1, 0, 0, 0, ""}, {math.MinInt, 0, 0, 0, ""}, {math.MaxInt, 0, 0, 0, ""}, {257, 0, 0, 0, ""},
	} {
		if header.Least(c.kind) != c.least || header.Limit(api.Options{}, c.kind) != c.plain || header.Limit(extended, c.kind) != c.extended || header.Name(c.kind) != c.name {
			t.Error(c)
		}
		all := api.Options{AS4: true, MP4: true, MP6: true, Add4: true, Add6: true}
		if header.Limit(all, c.kind) != c.plain {
			t.Error(c, "another option counts")
		}
	}
}

func TestBytes(t *testing.T) { // P4.2
	for _, h := range []header.Header{{0, 0}, {19, 4}, {65535, 255}, {258, 9}} {
		if b, ok := header.Bytes(h); !ok || !bytes.Equal(b, head(h.Len, h.Kind)) {
			t.Error(h, b, ok)
		}
	}
	for _, h := range []header.Header{{-1, 1}, {65536, 1}, {19, -1}, {19, 256}, {math.MinInt, 1}, {19, math.MaxInt}} {
		if b, ok := header.Bytes(h); ok || len(b) != 0 {
			t.Error(h, b)
		}
	}
}

func TestParseRejects(t *testing.T) { // P4.3
	marker := func(at int, n int) []byte {
		b := head(19, 4)
		b[at] = 254
		return b[:n]
	}
	for i, c := range []struct {
		o    api.Options
		b    []byte
		sub  int
		data []byte
		at   int
	}{
		{api.Options{}, nil, 2, nil, 0},
		{api.Options{}, head(19, 4)[:1], 2, nil, 1},
		{api.Options{}, head(19, 4)[:18], 2, nil, 18},
		{api.Options{}, marker(0, 1), 1, nil, 0},
		{api.Options{}, marker(15, 16), 1, nil, 15},
		{api.Options{}, marker(15, 15), 2, nil, 15},
		{api.Options{}, marker(3, 19), 1, nil, 3},
		{api.Options{}, append([]byte{255, 1, 2}, head(19, 4)...), 1, nil, 1},
		{api.Options{}, head(18, 4), 2, []byte{0, 18}, 16},
		{api.Options{}, head(0, 9), 2, []byte{0, 0}, 16},
		{api.Options{}, head(4097, 9), 2, []byte{16, 1}, 16},
		{api.Options{}, head(65535, 2), 2, []byte{255, 255}, 16},
		{api.Options{}, head(19, 0), 3, []byte{0}, 18},
		{api.Options{}, head(4096, 6), 3, []byte{6}, 18},
		{extended, head(65535, 255), 3, []byte{255}, 18},
		{api.Options{}, head(28, 1), 2, []byte{0, 28}, 16},
		{extended, head(4097, 1), 2, []byte{16, 1}, 16},
		{api.Options{}, head(22, 2), 2, []byte{0, 22}, 16},
		{api.Options{}, head(20, 3), 2, []byte{0, 20}, 16},
		{api.Options{}, head(20, 4), 2, []byte{0, 20}, 16},
		{extended, head(20, 4), 2, []byte{0, 20}, 16},
		{api.Options{}, head(22, 5), 2, []byte{0, 22}, 16},
		{extended, head(24, 5), 2, []byte{0, 24}, 16},
	} {
		h, v := header.Parse(c.o, c.b)
		if len(v.Data) == 0 {
			v.Data = nil
		}
		if h != (header.Header{}) || !reflect.DeepEqual(v, api.Verdict{Kind: api.Notify, Code: 1, Sub: c.sub, Data: c.data, At: c.at}) {
			t.Error(i, c, h, v)
		}
	}
}

func TestParseAccepts(t *testing.T) { // P4.3
	for _, c := range []struct {
		o            api.Options
		length, kind int
	}{
		{api.Options{}, 29, 1}, {api.Options{}, 4096, 1}, {extended, 4096, 1}, {api.Options{}, 23, 2}, {api.Options{}, 4096, 2}, {extended, 65535, 2},
		{api.Options{}, 21, 3}, {extended, 4097, 3}, {api.Options{}, 19, 4}, {extended, 19, 4}, {api.Options{}, 23, 5},
	} {
		h, v := header.Parse(c.o, append(head(c.length, c.kind), 1, 2, 3))
		if h != (header.Header{Len: c.length, Kind: c.kind}) || v.Kind != api.Accept || v.Code != 0 || v.Sub != 0 || len(v.Data) != 0 || v.At != 0 {
			t.Error(c, h, v)
		}
	}
}

func TestVerdictHasItsOwnData(t *testing.T) { // the rule on slices
	b := head(18, 4)
	_, v := header.Parse(api.Options{}, b)
	v.Data[1] = 99
	if b[17] != 18 {
		t.Error("the Data are those of the argument")
	}
}

func TestWrap(t *testing.T) { // P4.4 and P4.5
	for _, c := range []struct {
		o       api.Options
		kind, n int
		want    bool
	}{
		{api.Options{}, 4, 0, true}, {api.Options{}, 4, 1, false}, {extended, 4, 1, false}, {api.Options{}, 1, 10, true}, {api.Options{}, 1, 9, false},
		{api.Options{}, 1, 4077, true}, {extended, 1, 4078, false}, {api.Options{}, 2, 4, true}, {api.Options{}, 2, 3, false}, {api.Options{}, 2, 4077, true},
		{api.Options{}, 2, 4078, false}, {extended, 2, 4078, true}, {extended, 2, 65516, true}, {extended, 2, 65517, false}, {api.Options{}, 3, 2, true},
		{api.Options{}, 3, 1, false}, {extended, 3, 65516, true}, {api.Options{}, 3, 4078, false}, {api.Options{}, 5, 4, true}, {extended, 5, 5, false}, {api.Options{}, 5, 3, false},
		{api.Options{}, 0, 0, false}, {api.Options{}, 6, 4, false}, {api.Options{}, -1, 4, false}, {api.Options{}, math.MaxInt, 4, false},
	} {
		body := bytes.Repeat([]byte{7}, c.n)
		b, ok := header.Wrap(c.o, c.kind, body...)
		if ok != c.want {
			t.Error(c, ok)
		}
		if !ok {
			if len(b) != 0 {
				t.Error(c, b)
			}
			continue
		}
		if !bytes.Equal(b, append(head(19+c.n, c.kind), body...)) {
			t.Error(c, b)
		}
		if h, v := header.Parse(c.o, b); v.Kind != api.Accept || h != (header.Header{Len: len(b), Kind: c.kind}) {
			t.Error(c, h, v)
		}
	}
}
