package attrs_test

import (
	"bytes"
	"math"
	"math/rand"
	"slices"
	"testing"

	"peerage/api"
	"peerage/attrs"
	"peerage/finding"
	"peerage/octet"
	"peerage/value"
)

var (
	plain  = api.Options{MP4: true, MP6: true}
	four   = api.Options{AS4: true, MP4: true}
	origin = api.Attr{Type: api.Origin}
	path   = api.Attr{Type: api.Path}
	atomic = api.Attr{Type: api.Atomic}
	hop    = api.Attr{Type: api.NextHop, N: 0x01020304}
)

func comms(l ...uint32) api.Attr { return api.Attr{Type: api.Communities, List: l} }

func same(a, b []api.Attr) bool { return slices.EqualFunc(a, b, value.Same) }

func cat(parts ...[]byte) []byte { return bytes.Join(parts, nil) }

func TestValidAndBytes(t *testing.T) { // P14.1
	for i, c := range []struct {
		o    api.Options
		l    []api.Attr
		want []byte
		ok   bool
	}{
		{plain, nil, nil, true},
		{plain, []api.Attr{origin, path}, []byte{64, 1, 1, 0, 64, 2, 0}, true},
		{plain, []api.Attr{origin, path, hop, atomic, comms(1)}, []byte{64, 1, 1, 0, 64, 2, 0, 64, 3, 4, 1, 2, 3, 4, 64, 6, 0, 192, 8, 4, 0, 0, 0, 1}, true},
		{plain, []api.Attr{path, origin}, nil, false},
		{plain, []api.Attr{origin, origin}, nil, false},
		{plain, []api.Attr{origin, {Type: 2, Fam: 1}}, nil, false},
		{plain, []api.Attr{{}}, nil, false},
		{four, []api.Attr{origin, {Type: api.Aggregator4}}, nil, false},
		{plain, []api.Attr{origin, {Type: api.Aggregator4}}, []byte{64, 1, 1, 0, 192, 18, 8, 0, 0, 0, 0, 0, 0, 0, 0}, true},
	} {
		b, ok := attrs.Bytes(c.o, c.l...)
		if ok != c.ok || !bytes.Equal(b, c.want) || attrs.Valid(c.o, c.l...) != ok {
			t.Error(i, b, ok)
		}
	}
}

func TestTooLong(t *testing.T) { // P14.1
	big := func(kind, n int) api.Attr { return api.Attr{Type: kind, Partial: true, Bytes: make([]byte, n)} }
	for _, c := range []struct {
		l    []api.Attr
		want bool
	}{
		{[]api.Attr{big(99, 65531)}, true}, {[]api.Attr{big(99, 65532)}, false}, {[]api.Attr{big(99, 65535)}, false},
		{[]api.Attr{big(99, 65528), big(100, 0)}, true}, {[]api.Attr{big(99, 65528), big(100, 1)}, false},
	} {
		b, ok := attrs.Bytes(plain, c.l...)
		if ok != c.want || attrs.Valid(plain, c.l...) != c.want || ok && len(b) != 65535 || !ok && len(b) != 0 {
			t.Error(c.want, ok, len(b))
		}
	}
}

func TestRead(t *testing.T) { // P14.2
	discard := func(at int) api.Verdict { return api.Verdict{Kind: api.Discard, At: at} }
	withdraw := func(at int) api.Verdict { return api.Verdict{Kind: api.Withdraw, At: at} }
	notify := func(sub, at int, data ...byte) api.Verdict {
		return api.Verdict{Kind: api.Notify, Code: 3, Sub: sub, Data: data, At: at}
	}
	o, p, at := []byte{64, 1, 1, 0}, []byte{64, 2, 0}, []byte{64, 6, 0}
	un, un6 := []byte{128, 15, 3, 0, 1, 1}, []byte{128, 15, 3, 0, 2, 1}
	unAttr := api.Attr{Type: api.Unreach, Fam: 1}
	for i, c := range []struct {
		b    []byte
		want []api.Attr
		v    []api.Verdict
	}{
		{nil, nil, nil},
		{cat(o, p), []api.Attr{origin, path}, nil},
		{cat(at, p, o), []api.Attr{origin, path, atomic}, nil},
		{cat(o, []byte{64}), []api.Attr{origin}, []api.Verdict{withdraw(14)}},
		{cat(o, []byte{80, 2, 0}), []api.Attr{origin}, []api.Verdict{withdraw(14)}},
		{cat(o, []byte{64, 2, 1}), []api.Attr{origin}, []api.Verdict{withdraw(14)}},
		{cat([]byte{64, 2, 200}, o, p), nil, []api.Verdict{withdraw(10)}},
		{cat(o, p, o, p), []api.Attr{origin, path}, []api.Verdict{discard(17), discard(21)}},
		{cat(o, []byte{64, 1, 1, 7}, o), []api.Attr{origin}, []api.Verdict{discard(14), discard(18)}},
		{cat([]byte{64, 1, 1, 7}, o), nil, []api.Verdict{withdraw(10), discard(14)}},
		{cat(un, o, un6), []api.Attr{origin, unAttr}, []api.Verdict{notify(1, 20)}},
		{cat([]byte{128, 15, 3, 0, 9, 9}, un), nil, []api.Verdict{discard(13), notify(1, 16)}},
		{cat([]byte{128, 14, 0}, []byte{128, 14, 0}), nil, []api.Verdict{notify(9, 13), notify(1, 13)}},
		{cat([]byte{128, 99, 1, 5}, o, []byte{128, 99, 1, 5}), []api.Attr{origin}, []api.Verdict{discard(18)}},
		{cat([]byte{64, 99, 1, 5}, o), []api.Attr{origin}, []api.Verdict{notify(2, 10, 64, 99, 1, 5)}},
		{[]byte{192, 0, 0}, []api.Attr{{Partial: true}}, nil},
		{cat([]byte{192, 255, 0}, []byte{192, 0, 1, 9}), []api.Attr{{Partial: true, Bytes: []byte{9}}, {Type: 255, Partial: true}}, nil},
		{cat([]byte{192, 1, 1, 0}, []byte{64, 6, 1, 0}, p), []api.Attr{path}, []api.Verdict{withdraw(10), discard(14)}},
		{[]byte{80, 1, 0, 1, 0}, []api.Attr{origin}, nil},
	} {
		r := octet.New(cat(make([]byte, 10), c.b))
		r.Take(10)
		l, v := attrs.Read(plain, r)
		if !same(l, c.want) || !slices.EqualFunc(v, c.v, finding.Same) {
			t.Error(i, l, v)
		}
	}
	if l, v := attrs.Read(plain, nil); len(l) != 0 || len(v) != 0 {
		t.Error(l, v)
	}
}

func TestFindWithoutMissing(t *testing.T) { // P14.3
	l := []api.Attr{comms(1), origin, comms(2), {Type: -5, N: 1}, origin}
	if a, ok := attrs.Find(l, api.Communities); !ok || !value.Same(a, comms(1)) {
		t.Error(a, ok)
	} else if a.List[0] = 9; l[0].List[0] != 1 {
		t.Error("Find does not copy")
	}
	if a, ok := attrs.Find(l, -5); !ok || a.N != 1 {
		t.Error(a, ok)
	}
	for _, kind := range []int{0, 2, math.MaxInt} {
		if a, ok := attrs.Find(l, kind); ok || !value.Same(a, api.Attr{}) {
			t.Error(kind, a)
		}
	}
	if got := attrs.Without(l, api.Origin, 99, -5, api.Origin); !same(got, []api.Attr{comms(1), comms(2)}) {
		t.Error(got)
	} else if got[0].List[0] = 9; l[0].List[0] != 1 {
		t.Error("Without does not copy")
	}
	if got := attrs.Without(l); !same(got, l) || len(attrs.Without(nil, 1)) != 0 {
		t.Error(got)
	}
	if got := attrs.Missing(l, 3, api.Origin, -7, 2, api.Communities, 3); !slices.Equal(got, []int{3, -7, 2, 3}) {
		t.Error(got)
	}
	if len(attrs.Missing(l)) != 0 || !slices.Equal(attrs.Missing(nil, 1), []int{1}) {
		t.Error("nothing is missing of nothing")
	}
}

func TestSort(t *testing.T) { // P14.4
	l := []api.Attr{comms(2), {Type: math.MaxInt}, origin, comms(1), {Type: math.MinInt}, path, comms(3), {Type: -1}}
	want := []api.Attr{{Type: math.MinInt}, {Type: -1}, origin, path, comms(2), comms(1), comms(3), {Type: math.MaxInt}}
	before := slices.Clone(l)
	got := attrs.Sort(l...)
	if !same(got, want) || !same(l, before) {
		t.Error(got)
	}
	if got[4].List[0] = 9; l[0].List[0] != 2 {
		t.Error("Sort does not copy")
	}
	if len(attrs.Sort()) != 0 {
		t.Error("something from nothing")
	}
	var many []api.Attr
	for i := range 400 {
		many = append(many, api.Attr{Type: i * 7 % 5, N: uint32(i)})
	}
	sorted := attrs.Sort(many...)
	for i := 1; i < len(sorted); i++ {
		a, b := sorted[i-1], sorted[i]
		if a.Type > b.Type || a.Type == b.Type && a.N >= b.N {
			t.Fatal("not stable", a, b)
		}
	}
}

func TestReadInvertsBytes(t *testing.T) { // P14.5
	l := []api.Attr{
		{Partial: true, Bytes: []byte{1}}, {Type: api.Origin, N: 1}, {Type: api.Path, Segs: []api.Segment{{Kind: 1, AS: []uint32{1, 2}}}}, hop, {Type: api.MED, N: 7}, {Type: api.LocalPref}, atomic,
		{Type: api.Aggregator, N: 1, Partial: true}, comms(1, 2), {Type: api.Originator}, {Type: api.Clusters, List: []uint32{1}}, {Type: api.Reach, Fam: 2, Bytes: make([]byte, 16)}, {Type: api.Unreach, Fam: 1},
		{Type: api.ExtComms, List: []uint32{1, 2}}, {Type: api.Path4, Segs: []api.Segment{{Kind: 2, AS: []uint32{70000}}}}, {Type: api.Aggregator4, N: 70000}, {Type: api.LargeComms, List: make([]uint32, 300)}, {Type: 255, Partial: true, Bytes: make([]byte, 300)},
	}
	for skip := range len(l) {
		some := slices.Delete(slices.Clone(l), skip, skip+1)
		b, ok := attrs.Bytes(plain, some...)
		got, v := attrs.Read(plain, octet.New(b))
		if !ok || !same(got, some) || len(v) != 0 {
			t.Error(skip, got, v)
		}
	}
}

func TestReadAttributesAreValid(t *testing.T) { // P14.5
	rng := rand.New(rand.NewSource(2))
	for range 5000 {
		var b []byte
		for range rng.Intn(5) {
			n := rng.Intn(9)
			flags := []byte{64, 128, 192, 224, 80, 0}[rng.Intn(6)]
			b = append(b, flags, byte(rng.Intn(20)))
			if flags == 80 {
				b = append(b, 0)
			}
			b = append(b, byte(n))
			for range n {
				b = append(b, byte(rng.Intn(4)))
			}
		}
		for _, o := range []api.Options{{}, plain, four} {
			l, v := attrs.Read(o, octet.New(b))
			if !attrs.Valid(o, l...) {
				t.Fatal(b, l)
			}
			for _, x := range v {
				if !finding.Proper(x) || x.Kind == api.Accept {
					t.Fatal(b, x)
				}
			}
		}
	}
}
