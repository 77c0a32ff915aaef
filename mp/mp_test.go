package mp_test

import (
	"bytes"
	"math"
	"reflect"
	"testing"

	"peerage/api"
	"peerage/mp"
	"peerage/octet"
	"peerage/prefix"
)

var (
	plain = api.Options{MP4: true, MP6: true}
	add   = api.Options{MP4: true, MP6: true, Add4: true, Add6: true}
	hop4  = []byte{10, 0, 0, 1}
	hop16 = bytes.Repeat([]byte{0xfe}, 16)
	hop32 = bytes.Repeat([]byte{0xfd}, 32)
)

func route(path uint32, text string) api.Route {
	p, ok := prefix.Parse(text)
	if !ok {
		panic(text)
	}
	return api.Route{Path: path, Prefix: p}
}

func reach(fam int, hop []byte, l ...api.Route) api.Attr {
	return api.Attr{Type: api.Reach, Fam: fam, Bytes: hop, Routes: l}
}

func unreach(fam int, l ...api.Route) api.Attr {
	return api.Attr{Type: api.Unreach, Fam: fam, Routes: l}
}

func cat(parts ...[]byte) []byte { return bytes.Join(parts, nil) }

func TestFamilyAndCodes(t *testing.T) { // P12.1
	for _, afi := range []uint32{0, 1, 2, 3, 25, 65536, 65537, math.MaxUint32} {
		for _, safi := range []uint32{0, 1, 2, 4, 128, 257, math.MaxUint32} {
			want := 0
			if safi == 1 && (afi == 1 || afi == 2) {
				want = int(afi)
			}
			if got := mp.Family(afi, safi); got != want {
				t.Error(afi, safi, got)
			}
		}
	}
	for fam, want := range map[int][]byte{1: {0, 1, 1}, 2: {0, 2, 1}, 0: nil, 3: nil, -1: nil, math.MinInt: nil, math.MaxInt: nil} {
		if b, ok := mp.Codes(fam); ok != (want != nil) || !bytes.Equal(b, want) {
			t.Error(fam, b, ok)
		}
	}
	for kind := -20; kind < 300; kind++ {
		if mp.Has(kind) != (kind == 14 || kind == 15) {
			t.Error(kind)
		}
	}
}

func TestValidAndBytes(t *testing.T) { // P12.2
	four, five, six := route(0, "10.0.0.0/8"), route(5, "10.0.0.0/8"), route(0, "1:0:0:0:0:0:0:0/16")
	for i, c := range []struct {
		o    api.Options
		a    api.Attr
		want []byte
	}{
		{plain, unreach(2), []byte{0, 2, 1}},
		{plain, unreach(1, four, four), []byte{0, 1, 1, 8, 10, 8, 10}},
		{add, unreach(1, five), []byte{0, 1, 1, 0, 0, 0, 5, 8, 10}},
		{api.Options{MP4: true, Add6: true, MP6: true}, unreach(1, four), []byte{0, 1, 1, 8, 10}},
		{plain, reach(1, hop4), cat([]byte{0, 1, 1, 4}, hop4, []byte{0})},
		{plain, reach(1, hop4, four), cat([]byte{0, 1, 1, 4}, hop4, []byte{0, 8, 10})},
		{plain, reach(2, hop16, six), cat([]byte{0, 2, 1, 16}, hop16, []byte{0, 16, 0, 1})},
		{add, reach(2, hop32, six), cat([]byte{0, 2, 1, 32}, hop32, []byte{0, 0, 0, 0, 0, 16, 0, 1})},
		{api.Options{MP6: true}, unreach(1), nil},
		{api.Options{MP4: true}, unreach(2), nil},
		{api.Options{}, reach(1, hop4), nil},
		{plain, unreach(0), nil}, {plain, unreach(3), nil}, {plain, unreach(-1), nil},
		{plain, unreach(1, five), nil}, {plain, unreach(2, four), nil}, {plain, unreach(1, six), nil}, {plain, unreach(1, four, api.Route{}), nil},
		{plain, reach(1, nil), nil}, {plain, reach(1, hop16), nil}, {plain, reach(1, hop4[:3]), nil}, {plain, reach(2, hop4), nil}, {plain, reach(2, hop32[:24]), nil}, {plain, reach(2, make([]byte, 272)), nil},
		{plain, api.Attr{Type: 15, Fam: 1, Bytes: []byte{0}}, nil},
		{plain, api.Attr{Type: 15, Fam: 1, Partial: true}, nil},
		{plain, api.Attr{Type: 15, Fam: 1, N: 1}, nil}, {plain, api.Attr{Type: 15, Fam: 1, M: 1}, nil},
		{plain, api.Attr{Type: 15, Fam: 1, List: []uint32{0}}, nil}, {plain, api.Attr{Type: 15, Fam: 1, Segs: []api.Segment{{}}}, nil},
		{plain, api.Attr{Type: 13, Fam: 1}, nil}, {plain, api.Attr{Type: 16, Fam: 1}, nil}, {plain, api.Attr{}, nil},
		{plain, api.Attr{Type: 15, Fam: 1, Bytes: []byte{}, List: []uint32{}, Segs: []api.Segment{}, Routes: []api.Route{}}, []byte{0, 1, 1}},
	} {
		b, ok := mp.Bytes(c.o, c.a)
		if ok != (c.want != nil) || !bytes.Equal(b, c.want) || mp.Valid(c.o, c.a) != ok {
			t.Error(i, c, b, ok)
		}
	}
}

// after returns a reader of b whose offsets begin at 100.
func after(b []byte) *octet.Reader {
	r := octet.New(cat(make([]byte, 100), b))
	r.Take(100)
	return r
}

func TestReadAccepts(t *testing.T) { // P12.3
	for i, c := range []struct {
		o    api.Options
		kind int
		b    []byte
		want api.Attr
	}{
		{plain, 15, []byte{0, 2, 1}, unreach(2)},
		{plain, 15, []byte{0, 1, 1, 9, 10, 255}, unreach(1, route(0, "10.128.0.0/9"))},
		{add, 15, []byte{0, 1, 1, 0, 0, 0, 5, 8, 10}, unreach(1, route(5, "10.0.0.0/8"))},
		{plain, 14, cat([]byte{0, 1, 1, 4}, hop4, []byte{0}), reach(1, hop4)},
		{plain, 14, cat([]byte{0, 1, 1, 4}, hop4, []byte{255, 8, 10}), reach(1, hop4, route(0, "10.0.0.0/8"))},
		{plain, 14, cat([]byte{0, 2, 1, 16}, hop16, []byte{1, 0}), reach(2, hop16, route(0, "0:0:0:0:0:0:0:0/0"))},
		{plain, 14, cat([]byte{0, 2, 1, 32}, hop32, []byte{0}), reach(2, hop32)},
	} {
		r := after(c.b)
		if a, v := mp.Read(c.o, c.kind, r); !reflect.DeepEqual(v, api.Verdict{}) || !reflect.DeepEqual(a, c.want) || r.Left() != 0 {
			t.Error(i, a, v)
		}
	}
}

func TestReadRejects(t *testing.T) { // P12.3
	short := api.Verdict{Kind: api.Notify, Code: 3, Sub: 9, At: 100}
	ignored := api.Verdict{Kind: api.Discard, At: 100}
	reset := func(fam, at int) api.Verdict { return api.Verdict{Kind: api.Reset, Sub: fam, At: at} }
	for i, c := range []struct {
		o    api.Options
		kind int
		b    []byte
		want api.Verdict
	}{
		{plain, 14, nil, short}, {plain, 14, []byte{1}, short}, {plain, 15, []byte{1}, short}, {api.Options{}, 15, []byte{0, 1}, short},
		{plain, 14, []byte{0, 3, 1}, ignored}, {plain, 15, []byte{0, 1, 2, 99}, ignored}, {plain, 15, []byte{1, 1, 1}, ignored},
		{api.Options{MP6: true}, 15, []byte{0, 1, 1}, ignored}, {api.Options{MP4: true}, 14, []byte{0, 2, 1, 7}, ignored}, {api.Options{}, 14, []byte{0, 1, 1}, ignored},
		{plain, 14, []byte{0, 1, 1}, reset(1, 103)}, {plain, 14, []byte{0, 2, 1}, reset(2, 103)},
		{plain, 14, cat([]byte{0, 1, 1, 16}, hop16, []byte{0}), reset(1, 103)}, {plain, 14, cat([]byte{0, 2, 1, 4}, hop4, []byte{0}), reset(2, 103)},
		{plain, 14, cat([]byte{0, 2, 1, 24}, hop16, make([]byte, 9)), reset(2, 103)}, {plain, 14, []byte{0, 1, 1, 0, 0}, reset(1, 103)},
		{plain, 14, cat([]byte{0, 1, 1, 4}, hop4[:3]), reset(1, 103)}, {plain, 14, cat([]byte{0, 2, 1, 32}, hop16), reset(2, 103)},
		{plain, 14, cat([]byte{0, 1, 1, 4}, hop4), reset(1, 108)}, {plain, 14, cat([]byte{0, 2, 1, 16}, hop16), reset(2, 120)}, {plain, 14, cat([]byte{0, 2, 1, 32}, hop32), reset(2, 136)},
		{plain, 14, cat([]byte{0, 1, 1, 4}, hop4, []byte{0, 33}), reset(1, 109)}, {plain, 14, cat([]byte{0, 1, 1, 4}, hop4, []byte{0, 8, 10, 8}), reset(1, 111)},
		{plain, 15, []byte{0, 2, 1, 129}, reset(2, 103)}, {plain, 15, []byte{0, 1, 1, 8, 10, 0, 9, 1}, reset(1, 106)}, {add, 15, []byte{0, 1, 1, 0, 0, 0}, reset(1, 103)},
	} {
		if a, v := mp.Read(c.o, c.kind, after(c.b)); !reflect.DeepEqual(v, c.want) || !reflect.DeepEqual(a, api.Attr{}) {
			t.Error(i, a, v)
		}
	}
	if a, v := mp.Read(plain, 14, nil); v.Kind != api.Notify || v.At != 0 || !reflect.DeepEqual(a, api.Attr{}) {
		t.Error(a, v)
	}
}

func TestText(t *testing.T) { // P12.4
	for _, c := range []struct {
		a    api.Attr
		want string
	}{
		{unreach(2), "unreach ipv6"},
		{unreach(1, route(0, "10.0.0.0/8"), route(7, "0.0.0.0/0")), "unreach ipv4 10.0.0.0/8 0.0.0.0/0#7"},
		{reach(1, hop4), "reach ipv4 0a000001"},
		{unreach(2, route(7, "0:0:0:0:0:0:0:0/0")), "unreach ipv6 0:0:0:0:0:0:0:0/0#7"},
		{reach(2, hop16, route(0, "1:0:0:0:0:0:0:0/16")), "reach ipv6 fefefefefefefefefefefefefefefefe 1:0:0:0:0:0:0:0/16"},
		{reach(1, hop16), ""}, {unreach(0), ""}, {unreach(1, route(0, "1:0:0:0:0:0:0:0/16")), ""}, {api.Attr{Type: 1}, ""}, {api.Attr{Type: 15, Fam: 1, Partial: true}, ""},
	} {
		if s := mp.Text(c.a); s != c.want {
			t.Error(c, s)
		}
	}
}

func TestRoutes(t *testing.T) { // P12.4
	a, b, bad := route(math.MaxUint32, "10.0.0.0/8"), route(0, "1:0:0:0:0:0:0:0/16"), api.Route{Path: 7, Prefix: api.Prefix{Fam: 3}}
	for _, c := range []struct {
		l    []api.Route
		want string
	}{
		{nil, ""}, {[]api.Route{a}, "10.0.0.0/8#4294967295"}, {[]api.Route{b, a}, "1:0:0:0:0:0:0:0/16 10.0.0.0/8#4294967295"},
		{[]api.Route{bad}, ""}, {[]api.Route{b, bad, b}, "1:0:0:0:0:0:0:0/16  1:0:0:0:0:0:0:0/16"}, {[]api.Route{bad, b}, " 1:0:0:0:0:0:0:0/16"},
	} {
		if s := mp.Routes(c.l...); s != c.want {
			t.Errorf("%v %q", c, s)
		}
	}
}

func TestReadInvertsBytes(t *testing.T) { // P12.5
	for _, o := range []api.Options{plain, add, {MP4: true, Add4: true}, {MP6: true}} {
		for _, a := range []api.Attr{
			unreach(1), unreach(2), unreach(1, route(0, "10.0.0.0/8"), route(0, "0.0.0.0/0")), unreach(1, route(9, "10.0.0.0/8")), reach(1, hop4, route(0, "1.2.3.4/32")),
			reach(2, hop16), reach(2, hop32, route(1, "1:0:0:0:0:0:0:0/16"), route(2, "0:0:0:0:0:0:0:1/128")),
		} {
			b, ok := mp.Bytes(o, a)
			if !ok {
				continue
			}
			if got, v := mp.Read(o, a.Type, octet.New(b)); v.Kind != api.Accept || !reflect.DeepEqual(got, a) {
				t.Error(o, a, got, v)
			}
		}
	}
}
