package community_test

import (
	"bytes"
	"math"
	"reflect"
	"slices"
	"testing"

	"peerage/api"
	"peerage/community"
)

func list(kind int, l ...uint32) api.Attr { return api.Attr{Type: kind, List: l} }

func TestGroup(t *testing.T) { // P9.1
	want := map[int]int{8: 1, 10: 1, 16: 2, 32: 3}
	for kind := -40; kind < 300; kind++ {
		if community.Group(kind) != want[kind] {
			t.Error(kind)
		}
	}
	if community.Group(math.MaxInt) != 0 || community.Group(math.MinInt) != 0 {
		t.Error("extreme types")
	}
}

func TestValidAndBytes(t *testing.T) { // P9.1
	for _, c := range []struct {
		a    api.Attr
		want []byte
	}{
		{list(8, 0x01020304), []byte{1, 2, 3, 4}},
		{list(10, 1, math.MaxUint32), []byte{0, 0, 0, 1, 255, 255, 255, 255}},
		{list(16, 1, 2), []byte{0, 0, 0, 1, 0, 0, 0, 2}},
		{list(32, 1, 2, 3), []byte{0, 0, 0, 1, 0, 0, 0, 2, 0, 0, 0, 3}},
		{api.Attr{Type: 8, Partial: true, List: []uint32{0}, Segs: []api.Segment{}, Bytes: []byte{}, Routes: []api.Route{}}, []byte{0, 0, 0, 0}},
		{list(8), nil}, {list(10), nil}, {list(16), nil}, {list(32), nil},
		{list(16, 1), nil}, {list(16, 1, 2, 3), nil}, {list(32, 1, 2), nil}, {list(32, 1, 2, 3, 4), nil}, {list(1, 1), nil}, {list(0, 1), nil}, {list(-8, 1), nil},
		{api.Attr{Type: 8, List: []uint32{1}, N: 1}, nil}, {api.Attr{Type: 8, List: []uint32{1}, M: 1}, nil}, {api.Attr{Type: 8, List: []uint32{1}, Fam: 1}, nil},
		{api.Attr{Type: 8, List: []uint32{1}, Segs: []api.Segment{{}}}, nil}, {api.Attr{Type: 8, List: []uint32{1}, Bytes: []byte{0}}, nil},
		{api.Attr{Type: 8, List: []uint32{1}, Routes: []api.Route{{}}}, nil},
	} {
		b, ok := community.Bytes(c.a)
		if ok != (c.want != nil) || !bytes.Equal(b, c.want) || community.Valid(c.a) != ok {
			t.Error(c, b, ok)
		}
	}
}

func TestRead(t *testing.T) { // P9.2
	for _, c := range []struct {
		kind int
		b    []byte
		want api.Attr
	}{
		{8, []byte{1, 2, 3, 4}, list(8, 0x01020304)},
		{10, []byte{0, 0, 0, 1, 255, 255, 255, 255}, list(10, 1, math.MaxUint32)},
		{16, []byte{0, 0, 0, 1, 0, 0, 0, 2}, list(16, 1, 2)},
		{32, []byte{0, 0, 0, 1, 0, 0, 0, 2, 0, 0, 0, 3}, list(32, 1, 2, 3)},
	} {
		if a, v := community.Read(c.kind, c.b); v != api.Accept || !reflect.DeepEqual(a, c.want) {
			t.Error(c, a, v)
		}
	}
	for kind, unit := range map[int]int{8: 4, 10: 4, 16: 8, 32: 12, 0: 0, 7: 0, -8: 0, 264: 0} {
		for n := 0; n < 40; n++ {
			good := unit > 0 && n > 0 && n%unit == 0
			a, v := community.Read(kind, make([]byte, n))
			if good != (v == api.Accept) || !good && (v != api.Withdraw || !reflect.DeepEqual(a, api.Attr{})) {
				t.Error(kind, n, a, v)
			}
		}
	}
}

func TestText(t *testing.T) { // P9.3
	for _, c := range []struct {
		a    api.Attr
		want string
	}{
		{list(8, 65536*65000+7), "communities 65000:7"},
		{list(8, 0, math.MaxUint32), "communities 0:0 65535:65535"},
		{list(10, 1, 0x0a000001), "clusters 0.0.0.1 10.0.0.1"},
		{list(16, 1, 2, math.MaxUint32, 0), "extended 1:2 4294967295:0"},
		{list(32, 1, 2, 3, 4, 5, 6), "large 1:2:3 4:5:6"},
		{list(8), ""}, {list(16, 1), ""}, {list(9, 1), ""}, {api.Attr{}, ""},
	} {
		if s := community.Text(c.a); s != c.want {
			t.Error(c, s)
		}
	}
}

func TestHas(t *testing.T) { // P9.4
	for _, c := range []struct {
		a     api.Attr
		group []uint32
		want  bool
	}{
		{list(8, 1, 2), []uint32{2}, true}, {list(8, 1, 2), []uint32{3}, false}, {list(8, 1, 2), []uint32{1, 2}, false}, {list(8, 1, 2), nil, false},
		{list(8, 1), []uint32{1, 0}, false}, {list(8, 1), []uint32{1, 0, 0}, false}, {list(8, 1), []uint32{1, 0, 0, 0}, false},
		{list(16, 1, 2, 3, 4), []uint32{3, 4}, true}, {list(16, 1, 2, 3, 4), []uint32{2, 3}, false}, {list(16, 1, 2, 3, 4), []uint32{1}, false},
		{list(32, 1, 2, 3, 4, 5, 6), []uint32{4, 5, 6}, true}, {list(32, 1, 2, 3), []uint32{1, 2, 4}, false}, {list(32, 1, 2, 3), []uint32{1, 2}, false},
		{list(16, 1, 2, 3), []uint32{1, 2}, false}, {list(9, 1), []uint32{1}, false}, {list(9), nil, false}, {api.Attr{Type: 8, List: []uint32{1}, N: 1}, []uint32{1}, false},
	} {
		if community.Has(c.a, c.group...) != c.want {
			t.Error(c)
		}
	}
}

func TestUnique(t *testing.T) { // P9.4
	for _, c := range []struct{ a, want api.Attr }{
		{list(8, 3, 1, 3, 2, 1), list(8, 3, 1, 2)},
		{api.Attr{Type: 8, Partial: true, List: []uint32{1, 1}}, api.Attr{Type: 8, Partial: true, List: []uint32{1}}},
		{list(16, 1, 2, 2, 1, 1, 2), list(16, 1, 2, 2, 1)},
		{list(32, 1, 1, 1, 1, 1, 2, 1, 1, 1), list(32, 1, 1, 1, 1, 1, 2)},
		{list(8), api.Attr{}}, {list(16, 1), api.Attr{}}, {list(5, 1), api.Attr{}}, {api.Attr{Type: 8, List: []uint32{1}, M: 2}, api.Attr{}},
	} {
		before := slices.Clone(c.a.List)
		if got := community.Unique(c.a); !reflect.DeepEqual(got, c.want) || !slices.Equal(before, c.a.List) {
			t.Error(c, got)
		}
	}
	a := list(8, 1, 2)
	if got := community.Unique(a); len(got.List) == 2 {
		if got.List[0] = 9; a.List[0] != 1 {
			t.Error("the result shares memory with the argument")
		}
	}
}

func TestConsequences(t *testing.T) { // P9.5
	for _, a := range []api.Attr{
		list(8, 1, 2, 1), list(10, 0), list(16, 1, 2, 1, 2, 2, 2), list(32, 1, 2, 3, 3, 2, 1, 1, 2, 3),
	} {
		b, ok := community.Bytes(a)
		if got, v := community.Read(a.Type, b); !ok || v != api.Accept || !reflect.DeepEqual(got, a) {
			t.Error(a, got)
		}
		once := community.Unique(a)
		if !reflect.DeepEqual(community.Unique(once), once) {
			t.Error(a, once)
		}
		n := community.Group(a.Type)
		for x := uint32(0); x < 64; x++ {
			group := []uint32{x % 4, x / 4 % 4, x / 16}[:n]
			if community.Has(a, group...) != community.Has(once, group...) {
				t.Error(a, group)
			}
		}
	}
}
