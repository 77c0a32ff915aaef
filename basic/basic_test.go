package basic_test

import (
	"bytes"
	"math"
	"reflect"
	"testing"

	"peerage/api"
	"peerage/basic"
)

// types are all types here, with the number of bytes of their values.
var types = map[int]int{api.Origin: 1, api.NextHop: 4, api.MED: 4, api.LocalPref: 4, api.Atomic: 0, api.Originator: 4}

// otherwise returns attributes that differ from a in one field other than Type, Partial and N.
func otherwise(a api.Attr) []api.Attr {
	var l []api.Attr
	for _, change := range []func(a *api.Attr){
		func(a *api.Attr) { a.M = 1 },
		func(a *api.Attr) { a.Segs = []api.Segment{{}} },
		func(a *api.Attr) { a.List = []uint32{0} },
		func(a *api.Attr) { a.Bytes = []byte{0} },
		func(a *api.Attr) { a.Fam = 1 },
		func(a *api.Attr) { a.Fam = -1 },
		func(a *api.Attr) { a.Routes = []api.Route{{}} },
	} {
		b := a
		change(&b)
		l = append(l, b)
	}
	return l
}

func TestHas(t *testing.T) { // P7.1
	for kind := -10; kind < 300; kind++ {
		if _, want := types[kind]; basic.Has(kind) != want {
			t.Error(kind)
		}
	}
	if basic.Has(math.MaxInt) || basic.Has(math.MinInt) {
		t.Error("extreme types")
	}
}

func TestValid(t *testing.T) { // P7.1
	for kind := range types {
		for _, n := range []uint32{0, 1, 2, 3, 255, math.MaxUint32} {
			want := kind != api.Origin && kind != api.Atomic || kind == api.Origin && n <= 2 || kind == api.Atomic && n == 0
			for _, partial := range []bool{false, true} {
				a := api.Attr{Type: kind, Partial: partial, N: n, Segs: []api.Segment{}, List: []uint32{}, Bytes: []byte{}, Routes: []api.Route{}}
				if basic.Valid(a) != want {
					t.Error(a)
				}
				for _, b := range otherwise(a) {
					if basic.Valid(b) || basic.Text(b) != "" {
						t.Error(b)
					}
					if form, ok := basic.Bytes(b); ok || len(form) != 0 {
						t.Error(b, form)
					}
				}
			}
		}
	}
	for _, kind := range []int{0, -1, 2, 7, 8, 32, 257, math.MinInt} {
		if basic.Valid(api.Attr{Type: kind}) {
			t.Error(kind)
		}
	}
}

func TestBytes(t *testing.T) { // P7.1
	for _, c := range []struct {
		a    api.Attr
		want []byte
	}{
		{api.Attr{Type: api.Origin, N: 2}, []byte{2}},
		{api.Attr{Type: api.NextHop, N: 0x01020304}, []byte{1, 2, 3, 4}},
		{api.Attr{Type: api.MED, N: 5, Partial: true}, []byte{0, 0, 0, 5}},
		{api.Attr{Type: api.LocalPref, N: math.MaxUint32}, []byte{255, 255, 255, 255}},
		{api.Attr{Type: api.Atomic}, nil},
		{api.Attr{Type: api.Originator, N: 256}, []byte{0, 0, 1, 0}},
	} {
		if b, ok := basic.Bytes(c.a); !ok || !bytes.Equal(b, c.want) {
			t.Error(c, b, ok)
		}
	}
	for _, a := range []api.Attr{{}, {Type: api.Origin, N: 3}, {Type: api.Atomic, N: 1}, {Type: api.Path}} {
		if b, ok := basic.Bytes(a); ok || len(b) != 0 {
			t.Error(a, b)
		}
	}
}

func TestReadRejects(t *testing.T) { // P7.2
	for kind, size := range types {
		want := api.Withdraw
		if kind == api.Atomic {
			want = api.Discard
		}
		for n := 0; n < 9; n++ {
			if n == size {
				continue
			}
			if a, v := basic.Read(kind, make([]byte, n)); v != want || !reflect.DeepEqual(a, api.Attr{}) {
				t.Error(kind, n, a, v)
			}
		}
	}
	for _, x := range []byte{3, 255} {
		if a, v := basic.Read(api.Origin, []byte{x}); v != api.Withdraw || !reflect.DeepEqual(a, api.Attr{}) {
			t.Error(x, a, v)
		}
	}
	for _, kind := range []int{0, -1, 2, 7, 99, math.MaxInt} {
		for _, b := range [][]byte{nil, {0}, {0, 0, 0, 0}} {
			if a, v := basic.Read(kind, b); v != api.Withdraw || !reflect.DeepEqual(a, api.Attr{}) {
				t.Error(kind, a, v)
			}
		}
	}
}

func TestText(t *testing.T) { // P7.3
	for _, c := range []struct {
		a    api.Attr
		want string
	}{
		{api.Attr{Type: api.Origin}, "origin igp"},
		{api.Attr{Type: api.Origin, N: 1, Partial: true}, "origin egp"},
		{api.Attr{Type: api.Origin, N: 2}, "origin incomplete"},
		{api.Attr{Type: api.Origin, N: 3}, ""},
		{api.Attr{Type: api.NextHop, N: 0x0a0000ff}, "nexthop 10.0.0.255"},
		{api.Attr{Type: api.MED, N: math.MaxUint32}, "med 4294967295"},
		{api.Attr{Type: api.LocalPref, N: 100}, "localpref 100"},
		{api.Attr{Type: api.Atomic}, "atomic"},
		{api.Attr{Type: api.Atomic, N: 1}, ""},
		{api.Attr{Type: api.Originator, N: 1}, "originator 0.0.0.1"},
		{api.Attr{}, ""},
	} {
		if s := basic.Text(c.a); s != c.want {
			t.Error(c, s)
		}
	}
	for n, want := range map[uint32]string{0: "0.0.0.0", 0x01020304: "1.2.3.4", math.MaxUint32: "255.255.255.255"} {
		if s := basic.Address(n); s != want {
			t.Error(n, s)
		}
	}
}

func TestPlain(t *testing.T) { // P7.4
	a := api.Attr{Type: -5, Partial: true, N: 3, M: 4}
	for _, c := range []struct {
		a      api.Attr
		fields []uint32
		want   bool
	}{
		{a, []uint32{3, 4}, true}, {a, []uint32{3}, false}, {a, []uint32{4, 3}, false}, {a, nil, false}, {a, []uint32{3, 4, 0}, false}, {a, []uint32{3, 4, 0, 0}, false},
		{api.Attr{N: 3}, []uint32{3}, true}, {api.Attr{N: 3}, []uint32{3, 0}, true}, {api.Attr{N: 3}, nil, false}, {api.Attr{M: 3}, nil, false}, {api.Attr{M: 3}, []uint32{0, 3}, true},
		{api.Attr{}, nil, true}, {api.Attr{}, []uint32{0}, true}, {api.Attr{}, []uint32{0, 0}, true}, {api.Attr{}, []uint32{0, 0, 0}, false}, {api.Attr{Type: 9, Partial: true}, nil, true},
	} {
		if basic.Plain(c.a, c.fields...) != c.want {
			t.Error(c)
		}
	}
	for _, b := range otherwise(api.Attr{Type: 7, N: 3}) {
		if basic.Plain(b, 3) {
			t.Error(b)
		}
	}
}

func TestReadInvertsBytes(t *testing.T) { // P7.5
	for kind := range types {
		for _, n := range []uint32{0, 1, 2, 0xfffffffe} {
			a := api.Attr{Type: kind, N: n}
			if !basic.Valid(a) {
				continue
			}
			b, ok := basic.Bytes(a)
			if got, v := basic.Read(kind, b); !ok || v != api.Accept || !reflect.DeepEqual(got, a) {
				t.Error(a, got, v)
			}
		}
	}
}
