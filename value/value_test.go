package value_test

import (
	"bytes"
	"math"
	"reflect"
	"testing"

	"peerage/api"
	"peerage/flag"
	"peerage/octet"
	"peerage/prefix"
	"peerage/value"
)

var (
	two  = api.Options{MP4: true, MP6: true}
	four = api.Options{AS4: true, MP4: true, MP6: true}
	none = api.Attr{}
)

func seq(as ...uint32) []api.Segment { return []api.Segment{{Kind: api.Sequence, AS: as}} }

func route(text string) api.Route {
	p, ok := prefix.Parse(text)
	if !ok {
		panic(text)
	}
	return api.Route{Prefix: p}
}

// samples are attributes with their forms, and the options for which they have them.
var samples = []struct {
	a         api.Attr
	form      []byte
	two, four bool
}{
	{api.Attr{Type: api.Origin, N: 2}, []byte{64, 1, 1, 2}, true, true},
	{api.Attr{Type: api.Path}, []byte{64, 2, 0}, true, true},
	{api.Attr{Type: api.Path, Segs: seq(258)}, []byte{64, 2, 4, 2, 1, 1, 2}, true, false},
	{api.Attr{Type: api.Path, Segs: seq(65536)}, []byte{64, 2, 6, 2, 1, 0, 1, 0, 0}, false, true},
	{api.Attr{Type: api.NextHop, N: 1}, []byte{64, 3, 4, 0, 0, 0, 1}, true, true},
	{api.Attr{Type: api.MED, N: 1}, []byte{128, 4, 4, 0, 0, 0, 1}, true, true},
	{api.Attr{Type: api.LocalPref, N: 1}, []byte{64, 5, 4, 0, 0, 0, 1}, true, true},
	{api.Attr{Type: api.Atomic}, []byte{64, 6, 0}, true, true},
	{api.Attr{Type: api.Aggregator, N: 1, M: 2}, []byte{192, 7, 6, 0, 1, 0, 0, 0, 2}, true, false},
	{api.Attr{Type: api.Aggregator, N: 65536, M: 2, Partial: true}, []byte{224, 7, 8, 0, 1, 0, 0, 0, 0, 0, 2}, false, true},
	{api.Attr{Type: api.Communities, List: []uint32{1}}, []byte{192, 8, 4, 0, 0, 0, 1}, true, true},
	{api.Attr{Type: api.Communities, List: []uint32{1}, Partial: true}, []byte{224, 8, 4, 0, 0, 0, 1}, true, true},
	{api.Attr{Type: api.Originator, N: 1}, []byte{128, 9, 4, 0, 0, 0, 1}, true, true},
	{api.Attr{Type: api.Clusters, List: []uint32{1}}, []byte{128, 10, 4, 0, 0, 0, 1}, true, true},
	{api.Attr{Type: api.Reach, Fam: 1, Bytes: []byte{1, 2, 3, 4}, Routes: []api.Route{route("10.0.0.0/8")}}, []byte{128, 14, 11, 0, 1, 1, 4, 1, 2, 3, 4, 0, 8, 10}, true, true},
	{api.Attr{Type: api.Unreach, Fam: 2}, []byte{128, 15, 3, 0, 2, 1}, true, true},
	{api.Attr{Type: api.ExtComms, List: []uint32{1, 2}}, []byte{192, 16, 8, 0, 0, 0, 1, 0, 0, 0, 2}, true, true},
	{api.Attr{Type: api.Path4, Segs: seq(1)}, []byte{192, 17, 6, 2, 1, 0, 0, 0, 1}, true, false},
	{api.Attr{Type: api.Path4, Segs: seq(1), Partial: true}, []byte{224, 17, 6, 2, 1, 0, 0, 0, 1}, true, false},
	{api.Attr{Type: api.Aggregator4, N: 1, M: 2}, []byte{192, 18, 8, 0, 0, 0, 1, 0, 0, 0, 2}, true, false},
	{api.Attr{Type: api.LargeComms, List: []uint32{1, 2, 3}, Partial: true}, []byte{224, 32, 12, 0, 0, 0, 1, 0, 0, 0, 2, 0, 0, 0, 3}, true, true},
	{api.Attr{Type: 0, Partial: true}, []byte{224, 0, 0}, true, true},
	{api.Attr{Type: 255, Partial: true, Bytes: []byte{7, 8}}, []byte{224, 255, 2, 7, 8}, true, true},
	{api.Attr{Type: 99, Partial: true, Bytes: make([]byte, 256)}, append([]byte{240, 99, 1, 0}, make([]byte, 256)...), true, true},
}

func TestSamples(t *testing.T) { // P13.1 and P13.5
	for _, s := range samples {
		for _, o := range []api.Options{two, four} {
			want := o == two && s.two || o == four && s.four
			if !want {
				continue
			}
			if !value.Valid(o, s.a) {
				t.Error(o, s.a)
			}
			form, ok := value.Form(o, s.a)
			if !ok || !bytes.Equal(form, s.form) {
				t.Error(o, s.a, form, ok)
			}
			r := octet.New(form)
			h, _ := flag.Read(r)
			b, ok := value.Bytes(o, s.a)
			if !ok || len(b) != h.Len || !bytes.Equal(b, s.form[len(s.form)-len(b):]) {
				t.Error(o, s.a, b, ok)
			}
			if got, v := value.Read(o, 5, h, r); !reflect.DeepEqual(v, api.Verdict{}) || !value.Same(got, s.a) || r.Left() != 0 {
				t.Error(o, s.a, got, v)
			}
		}
	}
}

func TestInvalid(t *testing.T) { // P13.1
	for i, c := range []struct {
		o api.Options
		a api.Attr
	}{
		{two, api.Attr{Type: api.Origin, N: 3}}, {two, api.Attr{Type: api.Origin, Partial: true}}, {two, api.Attr{Type: api.Atomic, Partial: true}}, {two, api.Attr{Type: api.MED, Partial: true}},
		{two, api.Attr{Type: api.Clusters, List: []uint32{1}, Partial: true}}, {two, api.Attr{Type: api.Path, Partial: true}}, {two, api.Attr{Type: api.Unreach, Fam: 1, Partial: true}},
		{two, api.Attr{Type: api.Path, Segs: seq(65536)}}, {four, api.Attr{Type: api.Path, Segs: seq()}}, {two, api.Attr{Type: api.Path, N: 1}}, {two, api.Attr{Type: api.Path, M: 1}},
		{two, api.Attr{Type: api.Path, List: []uint32{1}}}, {two, api.Attr{Type: api.Path, Bytes: []byte{1}}}, {two, api.Attr{Type: api.Path, Fam: 1}}, {two, api.Attr{Type: api.Path, Routes: []api.Route{{}}}},
		{two, api.Attr{Type: api.Aggregator, N: 65536}}, {four, api.Attr{Type: api.Aggregator4, N: 1}}, {four, api.Attr{Type: api.Path4, Segs: seq(1)}}, {two, api.Attr{Type: api.Path4}},
		{two, api.Attr{Type: api.Path4, Segs: seq()}}, {two, api.Attr{Type: api.Path4, Segs: seq(1), Bytes: []byte{1}}}, {api.Options{}, api.Attr{Type: api.Unreach, Fam: 1}},
		{two, api.Attr{Type: api.Communities}}, {two, api.Attr{Type: 99}}, {two, api.Attr{Type: 99, Bytes: []byte{1}}}, {two, api.Attr{Type: 256, Partial: true}}, {two, api.Attr{Type: -1, Partial: true}},
		{two, api.Attr{Type: math.MaxInt, Partial: true}}, {two, api.Attr{Type: 99, Partial: true, N: 1}}, {two, api.Attr{Type: 99, Partial: true, List: []uint32{1}}}, {two, api.Attr{Type: 99, Partial: true, Fam: 1}},
		{two, api.Attr{Type: 99, Partial: true, Segs: seq(1)}}, {two, api.Attr{Type: 99, Partial: true, Bytes: make([]byte, 65536)}}, {two, none},
	} {
		b, ok := value.Bytes(c.o, c.a)
		f, ok2 := value.Form(c.o, c.a)
		if value.Valid(c.o, c.a) || ok || ok2 || len(b) != 0 || len(f) != 0 || value.Text(c.o, c.a) != "" {
			t.Error(i, c.a.Type, ok, ok2)
		}
	}
}

func TestTooLong(t *testing.T) { // P13.1
	a := api.Attr{Type: api.Communities, List: make([]uint32, 16384)}
	b, ok := value.Bytes(two, a)
	f, ok2 := value.Form(two, a)
	if !value.Valid(two, a) || ok || ok2 || len(b) != 0 || len(f) != 0 {
		t.Error(len(b), len(f))
	}
	a.List = a.List[1:]
	b, ok = value.Bytes(two, a)
	f, ok2 = value.Form(two, a)
	if !ok || !ok2 || len(b) != 65532 || len(f) != 65536 {
		t.Error(len(b), len(f))
	}
	a = api.Attr{Type: 99, Partial: true, Bytes: make([]byte, 65535)}
	if f, ok := value.Form(two, a); !ok || len(f) != 65539 || !value.Valid(two, a) {
		t.Error(len(f))
	}
}

func TestRead(t *testing.T) { // P13.2
	withdraw, discard := api.Verdict{Kind: api.Withdraw, At: 9}, api.Verdict{Kind: api.Discard, At: 9}
	unrecognized := func(data ...byte) api.Verdict {
		return api.Verdict{Kind: api.Notify, Code: 3, Sub: 2, Data: data, At: 9}
	}
	accept := api.Verdict{}
	for i, c := range []struct {
		o           api.Options
		flags, kind int
		b           []byte
		a           api.Attr
		v           api.Verdict
	}{
		{two, 64, 99, []byte{1, 2}, none, unrecognized(64, 99, 2, 1, 2)}, {two, 0x7f, 0, nil, none, unrecognized(0x7f, 0, 0, 0)}, {two, 0, 255, nil, none, unrecognized(0, 255, 0)},
		{two, 128, 99, []byte{1, 2}, none, accept}, {two, 0xa0, 99, nil, none, accept}, {two, 192, 99, []byte{1, 2}, api.Attr{Type: 99, Partial: true, Bytes: []byte{1, 2}}, accept},
		{two, 255, 0, nil, api.Attr{Type: 0, Partial: true}, accept},
		{two, 0, 1, []byte{0}, none, withdraw}, {two, 192, 1, []byte{0}, none, withdraw}, {two, 96, 1, []byte{0}, none, withdraw}, {two, 64, 6, []byte{0}, none, discard},
		{two, 128, 6, []byte{0}, none, withdraw}, {two, 64, 1, []byte{3}, none, withdraw}, {two, 64, 1, nil, none, withdraw}, {two, 0x4f, 1, []byte{1}, api.Attr{Type: 1, N: 1}, accept},
		{four, 64, 17, []byte{9}, none, withdraw}, {four, 192, 17, []byte{2, 1, 0, 0, 0, 1}, none, discard}, {four, 192, 18, make([]byte, 8), none, discard}, {four, 128, 18, make([]byte, 8), none, withdraw},
		{two, 192, 17, []byte{2, 1, 0, 0, 0, 1}, api.Attr{Type: 17, Segs: seq(1)}, accept}, {two, 224, 17, []byte{2, 1, 0, 0, 0, 1}, api.Attr{Type: 17, Partial: true, Segs: seq(1)}, accept},
		{two, 192, 17, nil, none, discard}, {two, 192, 17, []byte{2, 1, 0, 1}, none, discard}, {two, 192, 17, []byte{2, 0}, none, discard},
		{two, 64, 2, []byte{2, 1, 0}, none, withdraw}, {four, 64, 2, []byte{2, 1, 0, 1}, none, withdraw}, {two, 64, 2, nil, api.Attr{Type: 2}, accept}, {two, 64, 2, []byte{3, 1, 0, 1}, none, withdraw},
		{two, 192, 7, make([]byte, 8), none, discard}, {four, 192, 7, make([]byte, 6), none, discard}, {two, 224, 7, make([]byte, 6), api.Attr{Type: 7, Partial: true}, accept}, {two, 192, 18, make([]byte, 6), none, discard},
		{two, 192, 8, nil, none, withdraw}, {two, 192, 16, make([]byte, 4), none, withdraw}, {two, 192, 32, make([]byte, 4), none, withdraw}, {two, 128, 10, make([]byte, 5), none, withdraw},
		{two, 240, 8, []byte{0, 0, 0, 1}, api.Attr{Type: 8, Partial: true, List: []uint32{1}}, accept},
		{two, 192, 15, []byte{0, 1, 1}, none, withdraw}, {two, 128, 15, []byte{0, 1, 1}, api.Attr{Type: 15, Fam: 1}, accept}, {two, 128, 15, []byte{0, 1, 2}, none, api.Verdict{Kind: api.Discard, At: 12}},
		{two, 128, 15, []byte{0}, none, api.Verdict{Kind: api.Notify, Code: 3, Sub: 9, At: 12}}, {two, 128, 14, []byte{0, 2, 1}, none, api.Verdict{Kind: api.Reset, Sub: 2, At: 15}},
		{api.Options{}, 128, 15, []byte{0, 1, 1}, none, api.Verdict{Kind: api.Discard, At: 12}},
	} {
		r := octet.New(append(make([]byte, 12), c.b...))
		r.Take(12)
		a, v := value.Read(c.o, 9, flag.Head{Flags: c.flags, Type: c.kind, Len: len(c.b)}, r)
		if !value.Same(a, c.a) || !reflect.DeepEqual(v, c.v) || r.Left() != 0 {
			t.Error(i, c, a, v)
		}
	}
	if a, v := value.Read(two, 9, flag.Head{Flags: 64, Type: 2}, nil); !value.Same(a, api.Attr{Type: 2}) || v.Kind != api.Accept {
		t.Error(a, v)
	}
}

func TestText(t *testing.T) { // P13.3
	for _, c := range []struct {
		o    api.Options
		a    api.Attr
		want string
	}{
		{two, api.Attr{Type: api.Path}, "path"}, {two, api.Attr{Type: api.Path, Segs: seq(1, 2)}, "path [1 2]"}, {two, api.Attr{Type: api.Path, Segs: seq(70000)}, ""}, {four, api.Attr{Type: api.Path, Segs: seq(70000)}, "path [70000]"},
		{two, api.Attr{Type: api.Path4, Segs: seq(70000)}, "path4 [70000]"}, {four, api.Attr{Type: api.Path4, Segs: seq(70000)}, ""}, {two, api.Attr{Type: api.Origin, N: 1}, "origin egp"},
		{two, api.Attr{Type: api.Aggregator, N: 1}, "aggregator 1 0.0.0.0"}, {two, api.Attr{Type: api.Aggregator, N: 70000}, ""}, {two, api.Attr{Type: api.Communities, List: []uint32{65536}}, "communities 1:0"},
		{two, api.Attr{Type: api.Unreach, Fam: 2}, "unreach ipv6"}, {api.Options{}, api.Attr{Type: api.Unreach, Fam: 2}, ""}, {two, api.Attr{Type: 99, Partial: true}, "TYPE 99"},
		{two, api.Attr{Type: 99, Partial: true, Bytes: []byte{0xab, 1}}, "TYPE 99 ab01"}, {two, api.Attr{Type: 99}, ""},
	} {
		if s := value.Text(c.o, c.a); s != c.want {
			t.Error(c, s)
		}
	}
}

// full has all fields.
func full() api.Attr {
	return api.Attr{Type: 1, Partial: true, N: 2, M: 3, Segs: []api.Segment{{Kind: 1, AS: []uint32{4}}, {Kind: 2}}, List: []uint32{5}, Bytes: []byte{6}, Fam: 7, Routes: []api.Route{{Path: 8}}}
}

func TestSame(t *testing.T) { // P13.4
	if !value.Same(full(), full()) || !value.Same(none, api.Attr{Segs: []api.Segment{}, List: []uint32{}, Bytes: []byte{}, Routes: []api.Route{}}) {
		t.Error("the same fields")
	}
	for i, change := range []func(*api.Attr){
		func(a *api.Attr) { a.Type = 0 }, func(a *api.Attr) { a.Partial = false }, func(a *api.Attr) { a.N = 0 }, func(a *api.Attr) { a.M = 0 }, func(a *api.Attr) { a.Fam = 0 },
		func(a *api.Attr) { a.Segs = nil }, func(a *api.Attr) { a.Segs[0].AS[0] = 0 }, func(a *api.Attr) { a.Segs[1].Kind = 0 }, func(a *api.Attr) { a.List = nil }, func(a *api.Attr) { a.List[0] = 0 },
		func(a *api.Attr) { a.Bytes = nil }, func(a *api.Attr) { a.Bytes[0] = 0 }, func(a *api.Attr) { a.Routes = nil }, func(a *api.Attr) { a.Routes[0].Path = 0 }, func(a *api.Attr) { a.Routes[0].Prefix.Addr[15] = 1 },
	} {
		a := full()
		change(&a)
		if value.Same(a, full()) || value.Same(full(), a) {
			t.Error(i)
		}
	}
}

func TestClone(t *testing.T) { // P13.4
	a := full()
	b := value.Clone(a)
	if !reflect.DeepEqual(a, b) && !value.Same(a, b) {
		t.Error(b)
	}
	b.Segs[0].AS[0], b.Segs[1].Kind, b.List[0], b.Bytes[0], b.Routes[0].Path = 9, 9, 9, 9, 9
	if !value.Same(a, full()) {
		t.Error("the copy shares memory", a)
	}
	if !value.Same(value.Clone(none), none) {
		t.Error("a zero Attr")
	}
}
