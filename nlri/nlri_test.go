package nlri_test

import (
	"bytes"
	"math"
	"slices"
	"testing"

	"peerage/api"
	"peerage/nlri"
	"peerage/prefix"
)

func route(path uint32, text string) api.Route {
	p, ok := prefix.Parse(text)
	if !ok {
		panic(text)
	}
	return api.Route{Path: path, Prefix: p}
}

func TestValid(t *testing.T) { // P3.1
	a, b, six := route(0, "10.0.0.0/8"), route(5, "10.0.0.0/8"), route(0, "1:0:0:0:0:0:0:0/16")
	bad := api.Route{Prefix: api.Prefix{Fam: 1, Len: 4, Addr: [16]byte{255}}}
	for _, c := range []struct {
		fam  int
		add  bool
		l    []api.Route
		want bool
	}{
		{1, false, nil, true}, {0, false, nil, true}, {-3, true, nil, true}, {math.MaxInt, true, nil, true},
		{1, false, []api.Route{a}, true}, {1, true, []api.Route{a, b}, true}, {1, false, []api.Route{a, b}, false},
		{2, false, []api.Route{a}, false}, {1, false, []api.Route{a, six}, false}, {2, false, []api.Route{six}, true},
		{1, true, []api.Route{bad}, false}, {1, true, []api.Route{a, bad}, false}, {0, true, []api.Route{{}}, false},
		{3, true, []api.Route{{Prefix: api.Prefix{Fam: 3}}}, false},
	} {
		if nlri.Valid(c.fam, c.add, c.l...) != c.want {
			t.Error(c)
		}
		if form, ok := nlri.Bytes(c.fam, c.add, c.l...); ok != c.want || !ok && len(form) != 0 {
			t.Error(c, form, ok)
		}
	}
}

func TestBytesAndSize(t *testing.T) { // P3.1
	for _, c := range []struct {
		fam  int
		add  bool
		l    []api.Route
		want []byte
	}{
		{1, false, nil, nil},
		{1, true, []api.Route{route(5, "10.0.0.0/8")}, []byte{0, 0, 0, 5, 8, 10}},
		{1, true, []api.Route{route(0, "0.0.0.0/0"), route(math.MaxUint32, "1.2.3.4/32")}, []byte{0, 0, 0, 0, 0, 255, 255, 255, 255, 32, 1, 2, 3, 4}},
		{1, false, []api.Route{route(0, "10.128.0.0/9"), route(0, "10.0.0.0/8")}, []byte{9, 10, 128, 8, 10}},
		{2, false, []api.Route{route(0, "102:0:0:0:0:0:0:0/17")}, []byte{17, 1, 2, 0}},
	} {
		b, ok := nlri.Bytes(c.fam, c.add, c.l...)
		if !ok || !bytes.Equal(b, c.want) {
			t.Error(c, b, ok)
		}
		if n := nlri.Size(c.add, c.l...); n != len(c.want) {
			t.Error(c, n)
		}
	}
	mixed := []api.Route{route(0, "10.0.0.0/8"), route(0, "1:0:0:0:0:0:0:0/16")}
	if n := nlri.Size(false, mixed...); n != 5 {
		t.Error(n)
	}
	nlri.Size(true, api.Route{Prefix: api.Prefix{Len: math.MaxInt}}, api.Route{Prefix: api.Prefix{Len: math.MinInt}})
}

func TestRead(t *testing.T) { // P3.2
	for _, c := range []struct {
		fam  int
		add  bool
		b    []byte
		want []api.Route
		at   int
	}{
		{1, false, nil, nil, -1},
		{7, true, nil, nil, -1},
		{1, false, []byte{8, 10, 9, 10, 255}, []api.Route{route(0, "10.0.0.0/8"), route(0, "10.128.0.0/9")}, -1},
		{1, true, []byte{0, 0, 0, 5, 8, 10}, []api.Route{route(5, "10.0.0.0/8")}, -1},
		{2, false, []byte{0, 0}, []api.Route{route(0, "0:0:0:0:0:0:0:0/0"), route(0, "0:0:0:0:0:0:0:0/0")}, -1},
		{1, false, []byte{33, 1, 2, 3, 4, 5}, nil, 0},
		{1, false, []byte{8, 10, 33, 1, 2, 3, 4, 5}, nil, 2},
		{1, false, []byte{8, 10, 16, 1}, nil, 2},
		{1, false, []byte{8, 10, 8}, nil, 2},
		{1, true, []byte{0, 0, 0, 5, 8, 10, 0, 0, 0}, nil, 6},
		{1, true, []byte{0, 0, 0, 5, 8, 10, 0, 0, 0, 1}, nil, 6},
		{1, true, []byte{0, 0, 0, 5, 8, 10, 0, 0, 0, 1, 40, 1, 2, 3, 4, 5}, nil, 6},
		{2, false, []byte{129, 1}, nil, 0},
		{0, false, []byte{0}, nil, 0},
		{3, true, []byte{0, 0, 0, 0, 0}, nil, 0},
	} {
		l, at := nlri.Read(c.fam, c.add, c.b)
		if at != c.at || !slices.Equal(l, c.want) {
			t.Error(c, l, at)
		}
	}
}

func TestUnique(t *testing.T) { // P3.3
	a, b, c := route(0, "10.0.0.0/8"), route(1, "10.0.0.0/8"), route(0, "10.0.0.0/9")
	odd := api.Route{Path: 7, Prefix: api.Prefix{Fam: -1, Len: -9}}
	l := []api.Route{b, a, b, c, a, odd, odd, c}
	before := slices.Clone(l)
	if got := nlri.Unique(l...); !slices.Equal(got, []api.Route{b, a, c, odd}) {
		t.Error(got)
	}
	if !slices.Equal(l, before) {
		t.Error("Unique changes its argument")
	}
	got := nlri.Unique(a, b)
	if got[0] = odd; len(nlri.Unique()) != 0 {
		t.Error("something from nothing")
	}
}

func TestSplit(t *testing.T) { // P3.4
	a, b, c := route(0, "10.0.0.0/8"), route(0, "10.0.0.0/16"), route(0, "0.0.0.0/0") // 2, 3 and 1 bytes
	l := []api.Route{a, b, c, a, a}                                                   // 2 3 1 2 2
	for _, x := range []struct {
		most int
		want [][]api.Route
	}{
		{3, [][]api.Route{{a}, {b}, {c, a}, {a}}},
		{4, [][]api.Route{{a}, {b, c}, {a, a}}},
		{5, [][]api.Route{{a, b}, {c, a, a}}},
		{6, [][]api.Route{{a, b, c}, {a, a}}},
		{10, [][]api.Route{l}},
		{math.MaxInt, [][]api.Route{l}},
	} {
		got, ok := nlri.Split(x.most, 1, false, l...)
		if !ok || !slices.EqualFunc(got, x.want, slices.Equal) {
			t.Error(x, got, ok)
		}
	}
	for _, most := range []int{2, 1, 0, -1, math.MinInt} {
		if got, ok := nlri.Split(most, 1, false, l...); ok || len(got) != 0 {
			t.Error(most, got)
		}
		if got, ok := nlri.Split(most, 1, false); !ok || len(got) != 0 {
			t.Error(most, got)
		}
	}
	if got, ok := nlri.Split(100, 2, false, a); ok || len(got) != 0 {
		t.Error("another family", got)
	}
	if got, ok := nlri.Split(100, 1, false, a, route(3, "10.0.0.0/8")); ok || len(got) != 0 {
		t.Error("a path identifier", got)
	}
	if got, ok := nlri.Split(6, 1, true, a, route(3, "10.0.0.0/8")); !ok || len(got) != 2 {
		t.Error(got, ok)
	}
	if got, ok := nlri.Split(5, 1, true, a); ok || len(got) != 0 {
		t.Error(got)
	}
	lists, _ := nlri.Split(4, 1, false, a, a, c, c)
	lists[0] = append(lists[0], b)
	if lists[1][0] != c {
		t.Error("two lists share memory")
	}
}

func TestReadInvertsBytes(t *testing.T) { // P3.5
	one := []api.Route{route(1, "10.0.0.0/8"), route(0, "0.0.0.0/0"), route(9, "1.2.3.4/32")}
	two := []api.Route{route(7, "128.0.0.0/1"), route(1, "10.0.0.0/8")}
	six := []api.Route{route(0, "1:2:3:0:0:0:0:0/48"), route(0, "0:0:0:0:0:0:0:1/128")}
	for _, c := range []struct {
		fam int
		add bool
		l   []api.Route
	}{{1, true, one}, {1, true, two}, {2, false, six}, {2, true, six}} {
		b, ok := nlri.Bytes(c.fam, c.add, c.l...)
		if got, at := nlri.Read(c.fam, c.add, b); !ok || at != -1 || !slices.Equal(got, c.l) {
			t.Error(c, got, at)
		}
	}
	b1, _ := nlri.Bytes(1, true, one...)
	b2, _ := nlri.Bytes(1, true, two...)
	both, _ := nlri.Bytes(1, true, append(slices.Clone(one), two...)...)
	if !bytes.Equal(both, append(b1, b2...)) {
		t.Error(both)
	}
}
