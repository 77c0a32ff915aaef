package refresh_test

import (
	"bytes"
	"math"
	"testing"

	"peerage/api"
	"peerage/refresh"
)

type re = refresh.Refresh

func TestValidAndBytes(t *testing.T) { // P19.1
	for i, c := range []struct {
		x    re
		want []byte
	}{
		{re{}, []byte{0, 0, 0, 0}}, {re{2, 1, 1}, []byte{0, 2, 1, 1}}, {re{65535, 255, 255}, []byte{255, 255, 255, 255}}, {re{258, 3, 4}, []byte{1, 2, 3, 4}},
		{re{-1, 0, 0}, nil}, {re{65536, 0, 0}, nil}, {re{0, -1, 0}, nil}, {re{0, 256, 0}, nil}, {re{0, 0, -1}, nil}, {re{0, 0, 256}, nil},
		{re{math.MinInt, 0, 0}, nil}, {re{math.MaxInt, 0, 0}, nil}, {re{1, math.MinInt, 1}, nil}, {re{1, 0, math.MaxInt}, nil}, {re{1 << 32, 0, 1}, nil},
	} {
		b, ok := refresh.Bytes(c.x)
		if ok != (c.want != nil) || !bytes.Equal(b, c.want) || refresh.Valid(c.x) != ok {
			t.Error(i, b, ok)
		}
	}
}

func TestParse(t *testing.T) { // P19.1
	if x, ok := refresh.Parse([]byte{1, 2, 3, 255}); !ok || x != (re{258, 3, 255}) {
		t.Error(x, ok)
	}
	for _, n := range []int{0, 1, 3, 5, 8} {
		if x, ok := refresh.Parse(bytes.Repeat([]byte{1}, n)); ok || x != (re{}) {
			t.Error(n, x)
		}
	}
}

func TestMake(t *testing.T) { // P19.2
	for _, c := range []struct {
		fam, sub int
		want     re
	}{{1, 0, re{1, 0, 1}}, {2, 255, re{2, 255, 1}}, {2, 2, re{2, 2, 1}}} {
		if x, ok := refresh.Make(c.fam, c.sub); !ok || x != c.want {
			t.Error(c, x, ok)
		}
	}
	for _, c := range [][2]int{{0, 0}, {3, 0}, {-1, 1}, {1, -1}, {1, 256}, {math.MinInt, 0}, {2, math.MaxInt}} {
		if x, ok := refresh.Make(c[0], c[1]); ok || x != (re{}) {
			t.Error(c, x)
		}
	}
}

func TestUseful(t *testing.T) { // P19.2
	six := api.Options{MP6: true}
	for i, c := range []struct {
		o    api.Options
		x    re
		want bool
	}{
		{api.Options{}, re{1, 0, 1}, true}, {api.Options{}, re{1, 2, 1}, true}, {api.Options{}, re{1, 3, 1}, false}, {api.Options{}, re{2, 0, 1}, false}, {six, re{2, 1, 1}, true}, {six, re{1, 0, 1}, true},
		{six, re{2, 255, 1}, false}, {six, re{2, 0, 2}, false}, {six, re{3, 0, 1}, false}, {six, re{0, 0, 0}, false}, {six, re{1, -1, 1}, false}, {six, re{1 << 32, 0, 1}, false}, {six, re{1<<32 + 1, 0, 1}, false},
		{api.Options{MP4: true, AS4: true, Add6: true}, re{2, 0, 1}, false},
	} {
		if refresh.Useful(c.o, c.x) != c.want {
			t.Error(i, c)
		}
	}
}

func TestText(t *testing.T) { // P19.3
	for _, c := range []struct {
		x    re
		want string
	}{
		{re{1, 0, 1}, "refresh ipv4"}, {re{2, 1, 1}, "begin ipv6"}, {re{2, 2, 1}, "end ipv6"}, {re{1, 3, 1}, "sub 3 ipv4"}, {re{1, 255, 128}, "sub 255 1/128"}, {re{0, 0, 0}, "refresh 0/0"}, {re{65535, 0, 1}, "refresh 65535/1"},
		{re{-1, 0, 1}, ""}, {re{1, 256, 1}, ""}, {re{1, 0, -1}, ""},
	} {
		if s := refresh.Text(c.x); s != c.want {
			t.Error(c, s)
		}
	}
}

func TestConsequences(t *testing.T) { // P19.4
	for _, x := range []re{{}, {1, 2, 3}, {65535, 255, 255}, {256, 0, 128}} {
		b, ok := refresh.Bytes(x)
		if got, ok2 := refresh.Parse(b); !ok || !ok2 || got != x {
			t.Error(x, got)
		}
	}
	for sub := 0; sub <= 2; sub++ {
		for _, fam := range []int{1, 2} {
			x, ok := refresh.Make(fam, sub)
			if !ok || !refresh.Valid(x) || refresh.Useful(api.Options{MP6: true}, x) != true || refresh.Useful(api.Options{}, x) != (fam == 1) {
				t.Error(fam, sub, x)
			}
		}
	}
}
