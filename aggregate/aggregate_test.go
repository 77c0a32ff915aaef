package aggregate_test

import (
	"bytes"
	"math"
	"reflect"
	"testing"

	"peerage/aggregate"
	"peerage/api"
)

func agg(n, m uint32) api.Attr  { return api.Attr{Type: api.Aggregator, N: n, M: m} }
func agg4(n, m uint32) api.Attr { return api.Attr{Type: api.Aggregator4, N: n, M: m} }

func partial(a api.Attr) api.Attr {
	a.Partial = true
	return a
}

func TestHas(t *testing.T) { // P8.1
	for kind := -3; kind < 300; kind++ {
		if aggregate.Has(kind) != (kind == 7 || kind == 18) {
			t.Error(kind)
		}
	}
}

func TestValidAndBytes(t *testing.T) { // P8.1
	for _, c := range []struct {
		width int
		a     api.Attr
		want  []byte
	}{
		{2, agg(258, 0x01020304), []byte{1, 2, 1, 2, 3, 4}},
		{2, agg(65535, 0), []byte{255, 255, 0, 0, 0, 0}},
		{2, agg(65536, 0), nil},
		{4, agg(65536, 1), []byte{0, 1, 0, 0, 0, 0, 0, 1}},
		{4, partial(agg(math.MaxUint32, math.MaxUint32)), bytes.Repeat([]byte{255}, 8)},
		{2, partial(agg4(70000, 1)), []byte{0, 1, 0x11, 0x70, 0, 0, 0, 1}},
		{4, agg4(1, 2), []byte{0, 0, 0, 1, 0, 0, 0, 2}},
		{2, api.Attr{Type: 7, N: 1, Segs: []api.Segment{}, List: []uint32{}, Bytes: []byte{}, Routes: []api.Route{}}, []byte{0, 1, 0, 0, 0, 0}},
		{0, agg(1, 1), nil}, {1, agg(1, 1), nil}, {3, agg(1, 1), nil}, {8, agg4(1, 1), nil}, {-4, agg4(1, 1), nil}, {math.MaxInt, agg4(1, 1), nil},
		{4, api.Attr{Type: 8, N: 1}, nil}, {4, api.Attr{}, nil}, {4, api.Attr{Type: -7}, nil},
		{4, api.Attr{Type: 7, Segs: []api.Segment{{}}}, nil}, {4, api.Attr{Type: 7, List: []uint32{0}}, nil}, {4, api.Attr{Type: 18, Bytes: []byte{0}}, nil},
		{4, api.Attr{Type: 18, Fam: 1}, nil}, {4, api.Attr{Type: 7, Routes: []api.Route{{}}}, nil},
	} {
		b, ok := aggregate.Bytes(c.width, c.a)
		if ok != (c.want != nil) || !bytes.Equal(b, c.want) || aggregate.Valid(c.width, c.a) != ok {
			t.Error(c, b, ok)
		}
	}
}

func TestRead(t *testing.T) { // P8.2
	for _, c := range []struct {
		width, kind int
		b           []byte
		want        api.Attr
	}{
		{2, 7, []byte{1, 2, 1, 2, 3, 4}, agg(258, 0x01020304)},
		{4, 7, []byte{0, 1, 0, 0, 255, 0, 0, 1}, agg(65536, 0xff000001)},
		{2, 18, []byte{0, 0, 0, 1, 0, 0, 0, 2}, agg4(1, 2)},
		{4, 18, []byte{255, 0, 0, 1, 0, 0, 0, 2}, agg4(0xff000001, 2)},
	} {
		if a, v := aggregate.Read(c.width, c.kind, c.b); v != api.Accept || !reflect.DeepEqual(a, c.want) {
			t.Error(c, a, v)
		}
	}
	for _, width := range []int{2, 4, 0, 3, -1, math.MinInt, math.MaxInt} {
		for _, kind := range []int{7, 18, 0, 6, 8, -7, math.MaxInt} {
			for n := 0; n < 12; n++ {
				good := width == 2 && (kind == 7 && n == 6 || kind == 18 && n == 8) || width == 4 && (kind == 7 || kind == 18) && n == 8
				a, v := aggregate.Read(width, kind, make([]byte, n))
				if good != (v == api.Accept) || !good && (v != api.Discard || !reflect.DeepEqual(a, api.Attr{})) {
					t.Error(width, kind, n, a, v)
				}
			}
		}
	}
}

func TestText(t *testing.T) { // P8.3
	for _, c := range []struct {
		a    api.Attr
		want string
	}{
		{agg(70000, 1), "aggregator 70000 0.0.0.1"},
		{partial(agg4(math.MaxUint32, 0x0a000001)), "aggregator4 4294967295 10.0.0.1"},
		{api.Attr{Type: 7, Fam: 1}, ""}, {api.Attr{}, ""}, {api.Attr{Type: 9}, ""},
	} {
		if s := aggregate.Text(c.a); s != c.want {
			t.Error(c, s)
		}
	}
}

func TestNarrow(t *testing.T) { // P8.4
	for _, c := range []struct {
		a    api.Attr
		want []api.Attr
	}{
		{agg(65535, 9), []api.Attr{agg(65535, 9)}},
		{partial(agg(1, 9)), []api.Attr{partial(agg(1, 9))}},
		{agg(65536, 9), []api.Attr{agg(23456, 9), agg4(65536, 9)}},
		{partial(agg(70000, 9)), []api.Attr{partial(agg(23456, 9)), partial(agg4(70000, 9))}},
		{agg(23456, 9), []api.Attr{agg(23456, 9)}},
		{agg4(1, 2), nil}, {agg4(70000, 2), nil}, {api.Attr{}, nil}, {api.Attr{Type: 7, List: []uint32{1}}, nil}, {api.Attr{Type: 1}, nil},
	} {
		if l := aggregate.Narrow(c.a); !reflect.DeepEqual(l, c.want) {
			t.Error(c, l)
		}
	}
}

func TestMerge(t *testing.T) { // P8.5
	for _, c := range []struct {
		l    []api.Attr
		want api.Attr
	}{
		{[]api.Attr{agg(5, 6)}, agg(5, 6)},
		{[]api.Attr{agg(23456, 6)}, agg(23456, 6)},
		{[]api.Attr{agg(23456, 6), agg4(70000, 7)}, agg(70000, 7)},
		{[]api.Attr{agg4(70000, 7), agg(23456, 6)}, agg(70000, 7)},
		{[]api.Attr{partial(agg(23456, 6)), agg4(70000, 7)}, partial(agg(70000, 7))},
		{[]api.Attr{agg(23456, 6), partial(agg4(70000, 7))}, agg(70000, 7)},
		{[]api.Attr{agg(23456, 6), agg4(1, 7), agg4(2, 8)}, agg(1, 7)},
		{[]api.Attr{agg(5, 6), agg(23456, 6), agg4(70000, 7)}, agg(5, 6)},
		{[]api.Attr{agg(70000, 6), agg4(80000, 7)}, agg(70000, 6)},
	} {
		if a, ok := aggregate.Merge(c.l...); !ok || !reflect.DeepEqual(a, c.want) {
			t.Error(c, a, ok)
		}
	}
	for _, l := range [][]api.Attr{
		nil, {agg4(1, 2)}, {agg(1, 2), {}}, {agg(1, 2), {Type: 1}}, {agg(1, 2), {Type: 18, Fam: 2}}, {{Type: 7, Bytes: []byte{1}}}, {{Type: 8}, agg(1, 2)},
	} {
		if a, ok := aggregate.Merge(l...); ok || !reflect.DeepEqual(a, api.Attr{}) {
			t.Error(l, a)
		}
	}
}

func TestInverses(t *testing.T) { // P8.6
	for _, n := range []uint32{0, 1, 23456, 65535, 65536, math.MaxUint32} {
		for _, m := range []uint32{0, 5, math.MaxUint32} {
			for _, a := range []api.Attr{agg(n, m), agg4(n, m)} {
				for _, width := range []int{2, 4} {
					b, ok := aggregate.Bytes(width, a)
					if got, v := aggregate.Read(width, a.Type, b); ok && (v != api.Accept || !reflect.DeepEqual(got, a)) {
						t.Error(a, got, v)
					}
				}
			}
			for _, a := range []api.Attr{agg(n, m), partial(agg(n, m))} {
				if got, ok := aggregate.Merge(aggregate.Narrow(a)...); !ok || !reflect.DeepEqual(got, a) {
					t.Error(a, got)
				}
			}
		}
	}
}
