package prefix_test

import (
	"bytes"
	"math"
	"strings"
	"testing"

	"peerage/api"
	"peerage/octet"
	"peerage/prefix"
)

func make4(t *testing.T, length int, addr ...byte) api.Prefix {
	t.Helper()
	p, ok := prefix.Make(api.IPv4, length, addr...)
	if !ok {
		t.Fatal(length, addr)
	}
	return p
}

func make6(t *testing.T, length int, addr ...byte) api.Prefix {
	t.Helper()
	p, ok := prefix.Make(api.IPv6, length, addr...)
	if !ok {
		t.Fatal(length, addr)
	}
	return p
}

func TestValid(t *testing.T) { // P2.1
	ones := [16]byte{}
	for i := range ones {
		ones[i] = 255
	}
	for _, c := range []struct {
		p    api.Prefix
		want bool
	}{
		{api.Prefix{}, false},
		{api.Prefix{Fam: 1}, true},
		{api.Prefix{Fam: 2}, true},
		{api.Prefix{Fam: 3}, false},
		{api.Prefix{Fam: -1}, false},
		{api.Prefix{Fam: math.MaxInt}, false},
		{api.Prefix{Fam: 1, Len: -1}, false},
		{api.Prefix{Fam: 1, Len: math.MinInt}, false},
		{api.Prefix{Fam: 1, Len: math.MaxInt}, false},
		{api.Prefix{Fam: 1, Len: 32, Addr: [16]byte{255, 255, 255, 255}}, true},
		{api.Prefix{Fam: 1, Len: 33}, false},
		{api.Prefix{Fam: 1, Len: 32, Addr: [16]byte{4: 1}}, false},
		{api.Prefix{Fam: 1, Len: 32, Addr: [16]byte{15: 1}}, false},
		{api.Prefix{Fam: 2, Len: 128, Addr: ones}, true},
		{api.Prefix{Fam: 2, Len: 127, Addr: ones}, false},
		{api.Prefix{Fam: 2, Len: 129}, false},
		{api.Prefix{Fam: 1, Len: 9, Addr: [16]byte{10, 128}}, true},
		{api.Prefix{Fam: 1, Len: 9, Addr: [16]byte{10, 64}}, false},
		{api.Prefix{Fam: 1, Len: 8, Addr: [16]byte{10, 128}}, false},
		{api.Prefix{Fam: 1, Len: 0, Addr: [16]byte{128}}, false},
	} {
		if prefix.Valid(c.p) != c.want {
			t.Error(c)
		}
	}
}

func TestMake(t *testing.T) { // P2.1
	for _, c := range []struct {
		fam, length int
		addr        []byte
		want        [16]byte
	}{
		{1, 0, nil, [16]byte{}},
		{1, 0, []byte{255, 255, 255, 255}, [16]byte{}},
		{1, 1, []byte{255}, [16]byte{128}},
		{1, 7, []byte{255}, [16]byte{254}},
		{1, 8, []byte{255, 255}, [16]byte{255}},
		{1, 20, []byte{1, 2, 0xff}, [16]byte{1, 2, 0xf0}},
		{1, 32, []byte{1}, [16]byte{1}},
		{1, 32, []byte{1, 2, 3, 4}, [16]byte{1, 2, 3, 4}},
		{2, 128, bytes.Repeat([]byte{9}, 16), [16]byte{9, 9, 9, 9, 9, 9, 9, 9, 9, 9, 9, 9, 9, 9, 9, 9}},
		{2, 33, []byte{1, 2, 3, 4, 0xff, 0xff}, [16]byte{1, 2, 3, 4, 0x80}},
	} {
		p, ok := prefix.Make(c.fam, c.length, c.addr...)
		if !ok || p != (api.Prefix{Fam: c.fam, Len: c.length, Addr: c.want}) || !prefix.Valid(p) {
			t.Error(c, p, ok)
		}
	}
	for _, c := range []struct {
		fam, length, n int
	}{
		{0, 0, 0}, {3, 0, 0}, {-1, 8, 1}, {math.MinInt, 8, 1}, {1, -1, 0}, {1, 33, 0}, {1, math.MaxInt, 0},
		{2, 129, 0}, {2, math.MinInt, 0}, {1, 8, 5}, {2, 8, 17},
	} {
		if p, ok := prefix.Make(c.fam, c.length, make([]byte, c.n)...); ok || p != (api.Prefix{}) {
			t.Error(c, p, ok)
		}
	}
	addr := []byte{255, 255}
	prefix.Make(1, 4, addr...)
	if addr[0] != 255 || addr[1] != 255 {
		t.Error("Make changes its argument")
	}
}

func TestBytes(t *testing.T) { // P2.2
	for _, c := range []struct {
		p    api.Prefix
		want []byte
	}{
		{make4(t, 8, 10), []byte{8, 10}},
		{make4(t, 0), []byte{0}},
		{make4(t, 9, 10, 128), []byte{9, 10, 128}},
		{make4(t, 32, 1, 2, 3, 4), []byte{32, 1, 2, 3, 4}},
		{make6(t, 17, 1, 2, 128), []byte{17, 1, 2, 128}},
		{make6(t, 128, 1), append([]byte{128, 1}, make([]byte, 15)...)},
	} {
		if b, ok := prefix.Bytes(c.p); !ok || !bytes.Equal(b, c.want) {
			t.Error(c, b, ok)
		}
	}
	for _, p := range []api.Prefix{{}, {Fam: 1, Len: 33}, {Fam: 1, Len: 4, Addr: [16]byte{255}}, {Fam: 9}} {
		if b, ok := prefix.Bytes(p); ok || len(b) != 0 {
			t.Error(p, b)
		}
	}
}

func TestRead(t *testing.T) { // P2.2
	r := octet.New([]byte{9, 10, 255, 0, 32, 1, 2, 3, 4})
	for i, want := range []api.Prefix{make4(t, 9, 10, 128), make4(t, 0), make4(t, 32, 1, 2, 3, 4)} {
		if p, ok := prefix.Read(1, r); !ok || p != want {
			t.Error(i, p, ok)
		}
	}
	if r.At() != 9 {
		t.Error(r.At())
	}
	if p, ok := prefix.Read(2, octet.New([]byte{33, 1, 2, 3, 4, 0xff})); !ok || p != make6(t, 33, 1, 2, 3, 4, 0x80) {
		t.Error(p, ok)
	}
	for _, c := range []struct {
		fam int
		b   []byte
	}{
		{1, nil}, {1, []byte{8}}, {1, []byte{9, 10}}, {1, []byte{33, 1, 2, 3, 4, 5}}, {1, []byte{255, 1, 2, 3, 4, 5}},
		{2, append([]byte{129}, make([]byte, 17)...)}, {2, append([]byte{128}, make([]byte, 15)...)},
		{0, []byte{0}}, {3, []byte{0}}, {-1, []byte{8, 10}},
	} {
		if p, ok := prefix.Read(c.fam, octet.New(c.b)); ok || p != (api.Prefix{}) {
			t.Error(c, p)
		}
	}
	if p, ok := prefix.Read(1, nil); ok || p != (api.Prefix{}) {
		t.Error(p)
	}
}

func TestText(t *testing.T) { // P2.3
	for _, c := range []struct {
		p    api.Prefix
		want string
	}{
		{make4(t, 8, 10), "10.0.0.0/8"},
		{make4(t, 0), "0.0.0.0/0"},
		{make4(t, 32, 255, 1, 20, 3), "255.1.20.3/32"},
		{make6(t, 0), "0:0:0:0:0:0:0:0/0"},
		{make6(t, 32, 0x20, 0x01, 0x0d, 0xb8), "2001:db8:0:0:0:0:0:0/32"},
		{make6(t, 128, last(0, 0x0f)...), "0:0:0:0:0:0:0:f/128"},
	} {
		if s := prefix.Text(c.p); s != c.want {
			t.Error(c, s)
		}
		if p, ok := prefix.Parse(c.want); !ok || p != c.p {
			t.Error(c, p, ok)
		}
	}
	for _, p := range []api.Prefix{{}, {Fam: 1, Len: 33}, {Fam: 1, Len: 0, Addr: [16]byte{1}}, {Fam: 3}} {
		if s := prefix.Text(p); s != "" {
			t.Error(p, s)
		}
	}
}

func TestParseRejects(t *testing.T) { // P2.3
	for _, s := range []string{
		"", "/", "10.0.0.0", "10.0.0.0/", "/8", "10.0.0.0/33", "10.0.0.0/-1", "10.0.0.0/+8", "10.0.0.0/08", "10.0.0.0/8/8",
		"010.0.0.0/8", "10.0.0/8", "10.0.0.0.0/8", "10.0.0.256/32", "10..0.0/8", "10.0.0.0/8 ", " 10.0.0.0/8", "10.0.0.1/8",
		"10.0.0.a/32", "1:0:0:0:0:0:0/16", "1:0:0:0:0:0:0:0:0/16", "::/0", "1::/16", "DB8:0:0:0:0:0:0:0/16", "0db8:0:0:0:0:0:0:0/16",
		"10000:0:0:0:0:0:0:0/16", "1:0:0:0:0:0:0:1/16", "0:0:0:0:0:0:0:0/129", "0:0:0:0:0:0:1.2.3.4/128", "0x1.0.0.0/8", "1_0.0.0.0/8",
		"10.0.0.0/99999999999999999999", "10.0.0.0/8\n", "\x00", strings.Repeat(".", 1000) + "/8",
	} {
		if p, ok := prefix.Parse(s); ok || p != (api.Prefix{}) {
			t.Errorf("%q %v", s, p)
		}
	}
}

func TestCovers(t *testing.T) { // P2.4
	for _, c := range []struct {
		a, b api.Prefix
		want bool
	}{
		{make4(t, 8, 10), make4(t, 9, 10, 128), true},
		{make4(t, 8, 10), make4(t, 8, 10), true},
		{make4(t, 9, 10, 128), make4(t, 8, 10), false},
		{make4(t, 9, 10), make4(t, 9, 10, 128), false},
		{make4(t, 9, 10), make4(t, 32, 10, 128), false},
		{make4(t, 0), make4(t, 32, 1, 2, 3, 4), true},
		{make4(t, 0), make6(t, 0), false},
		{make6(t, 64, 1), make6(t, 128, last(1, 7)...), true},
		{make6(t, 128, last(0, 7)...), make6(t, 128, last(0, 6)...), false},
		{api.Prefix{}, api.Prefix{}, false},
		{make4(t, 0), api.Prefix{Fam: 1, Len: 8, Addr: [16]byte{1, 1}}, false},
		{api.Prefix{Fam: 1, Len: -1}, make4(t, 0), false},
		{make4(t, 8, 10), api.Prefix{Fam: 1, Len: 40, Addr: [16]byte{10}}, false},
	} {
		if prefix.Covers(c.a, c.b) != c.want {
			t.Error(c)
		}
	}
}

func TestCompare(t *testing.T) { // P2.4
	ascending := []api.Prefix{
		{Fam: math.MinInt, Len: math.MaxInt, Addr: [16]byte{255}},
		{Fam: -1},
		{},
		{Fam: 1, Len: math.MinInt},
		{Fam: 1, Len: -5},
		{Fam: 1},
		{Fam: 1, Len: 8},
		{Fam: 1, Len: math.MaxInt},
		{Fam: 1, Len: 0, Addr: [16]byte{15: 1}},
		{Fam: 1, Len: 8, Addr: [16]byte{10}},
		{Fam: 1, Len: 9, Addr: [16]byte{10}},
		{Fam: 1, Len: 9, Addr: [16]byte{10, 128}},
		{Fam: 1, Len: 8, Addr: [16]byte{200}},
		{Fam: 2},
		{Fam: math.MaxInt},
	}
	for i, a := range ascending {
		for j, b := range ascending {
			want := 0
			if i < j {
				want = -1
			} else if i > j {
				want = 1
			}
			if got := prefix.Compare(a, b); got != want {
				t.Error(a, b, got)
			}
		}
	}
}

func TestInverses(t *testing.T) { // P2.5
	var all []api.Prefix
	for _, first := range []byte{0, 10, 0xaa, 255} {
		for n := 0; n <= 32; n++ {
			all = append(all, make4(t, n, first, 0x55, 0xff, first))
		}
		for n := 0; n <= 128; n += 5 {
			all = append(all, make6(t, n, first, 0x55, 0, 0, 0, 1, 0xff, 0, first, 1, 2, 3, 4, 5, 6, 7))
		}
	}
	for _, p := range all {
		b, ok := prefix.Bytes(p)
		r := octet.New(b)
		if got, ok2 := prefix.Read(p.Fam, r); !ok || !ok2 || got != p || r.Left() != 0 {
			t.Error(p, b, got)
		}
		if got, ok := prefix.Parse(prefix.Text(p)); !ok || got != p {
			t.Error(p, prefix.Text(p), got)
		}
		if !prefix.Covers(p, p) {
			t.Error(p)
		}
	}
	for _, a := range all {
		for _, b := range all {
			for _, c := range all[:40] {
				if prefix.Covers(a, b) && prefix.Covers(b, c) && !prefix.Covers(a, c) {
					t.Error(a, b, c)
				}
			}
		}
	}
}

func last(first, last byte) []byte { return []byte{0: first, 15: last} }
