package open_test

import (
	"bytes"
	"math"
	"math/rand"
	"slices"
	"testing"

	"peerage/api"
	"peerage/capability"
	"peerage/finding"
	"peerage/open"
)

type caps = []capability.Cap

func cp(code int, data ...byte) capability.Cap { return capability.Cap{Code: code, Data: data} }

func cat(parts ...[]byte) []byte { return bytes.Join(parts, nil) }

// fixed are the first nine bytes of most OPENs here: AS 1, Hold 90, ID 5.
var fixed = []byte{4, 0, 1, 0, 90, 0, 0, 0, 5}

func TestValidAndBytes(t *testing.T) { // P17.1
	for i, c := range []struct {
		x    open.Open
		want []byte
	}{
		{open.Open{AS: 1, ID: 1}, []byte{4, 0, 1, 0, 0, 0, 0, 0, 1, 0}},
		{open.Open{AS: 65535, Hold: 3, ID: math.MaxUint32}, []byte{4, 255, 255, 0, 3, 255, 255, 255, 255, 0}},
		{open.Open{AS: 1, Hold: 65535, ID: 1, Caps: caps{cp(2)}}, []byte{4, 0, 1, 255, 255, 0, 0, 0, 1, 4, 2, 2, 2, 0}},
		{open.Open{AS: 65536, ID: 1, Caps: caps{cp(65, 0, 1, 0, 0)}}, []byte{4, 0x5b, 0xa0, 0, 0, 0, 0, 0, 1, 8, 2, 6, 65, 4, 0, 1, 0, 0}},
		{open.Open{AS: 7, ID: 1, Caps: caps{cp(65, 0, 0, 0, 7), cp(65, 0, 0, 0, 8)}}, []byte{4, 0, 7, 0, 0, 0, 0, 0, 1, 14, 2, 12, 65, 4, 0, 0, 0, 7, 65, 4, 0, 0, 0, 8}},
		{open.Open{ID: 1}, nil}, {open.Open{AS: 1}, nil}, {open.Open{}, nil},
		{open.Open{AS: 1, ID: 1, Hold: 1}, nil}, {open.Open{AS: 1, ID: 1, Hold: 2}, nil}, {open.Open{AS: 1, ID: 1, Hold: -1}, nil}, {open.Open{AS: 1, ID: 1, Hold: 65536}, nil},
		{open.Open{AS: 1, ID: 1, Hold: math.MinInt}, nil}, {open.Open{AS: 1, ID: 1, Hold: math.MaxInt}, nil},
		{open.Open{AS: 65536, ID: 1}, nil}, {open.Open{AS: 65536, ID: 1, Caps: caps{cp(65, 0, 1, 0)}}, nil}, {open.Open{AS: 7, ID: 1, Caps: caps{cp(65, 0, 0, 0, 8)}}, nil}, {open.Open{AS: 7, ID: 1, Caps: caps{cp(65, 0, 0, 0, 0)}}, nil},
		{open.Open{AS: 7, ID: 1, Caps: caps{cp(256)}}, nil}, {open.Open{AS: 7, ID: 1, Caps: caps{cp(9, make([]byte, 252)...)}}, nil},
		{open.Open{AS: 1, Hold: 90, ID: 5, Caps: caps{cp(9, make([]byte, 251)...)}}, cat(fixed, []byte{255, 2, 253, 9, 251}, make([]byte, 251))},
	} {
		b, ok := open.Bytes(c.x)
		if ok != (c.want != nil) || !bytes.Equal(b, c.want) || open.Valid(c.x) != ok {
			t.Error(i, b, ok)
		}
	}
}

func TestParseAccepts(t *testing.T) { // P17.2
	for i, c := range []struct {
		b    []byte
		want open.Open
	}{
		{cat(fixed, []byte{0}), open.Open{AS: 1, Hold: 90, ID: 5}},
		{[]byte{4, 255, 255, 0, 0, 255, 0, 0, 0, 0}, open.Open{AS: 65535, ID: 0xff000000}},
		{[]byte{4, 0, 1, 0, 3, 0, 0, 0, 5, 0}, open.Open{AS: 1, Hold: 3, ID: 5}},
		{[]byte{4, 0, 1, 255, 255, 0, 0, 0, 5, 0}, open.Open{AS: 1, Hold: 65535, ID: 5}},
		{cat(fixed, []byte{2, 2, 0}), open.Open{AS: 1, Hold: 90, ID: 5}},
		{cat(fixed, []byte{4, 2, 2, 2, 0}), open.Open{AS: 1, Hold: 90, ID: 5, Caps: caps{cp(2)}}},
		{cat(fixed, []byte{12, 2, 2, 2, 0, 2, 0, 2, 4, 9, 0, 8, 0}), open.Open{AS: 1, Hold: 90, ID: 5, Caps: caps{cp(2), cp(9), cp(8)}}},
		{cat(fixed, []byte{8, 2, 6, 65, 4, 0, 1, 0, 0}), open.Open{AS: 65536, Hold: 90, ID: 5, Caps: caps{cp(65, 0, 1, 0, 0)}}},
		{cat(fixed, []byte{6, 2, 4, 65, 2, 0, 0}), open.Open{AS: 1, Hold: 90, ID: 5, Caps: caps{cp(65, 0, 0)}}},
	} {
		if x, v := open.Parse(c.b); !open.Same(x, c.want) || !finding.Same(v, api.Verdict{}) || !open.Valid(x) {
			t.Error(i, x, v)
		}
	}
}

func TestParseRejects(t *testing.T) { // P17.2
	with := func(at int, x ...byte) []byte {
		b := cat(fixed, []byte{0})
		copy(b[at:], x)
		return b
	}
	for i, c := range []struct {
		b       []byte
		sub, at int
		data    []byte
	}{
		{nil, 0, 0, nil}, {fixed, 0, 9, nil}, {[]byte{3}, 0, 1, nil},
		{with(0, 3), 1, 0, []byte{0, 4}}, {with(0, 3, 0, 0, 0, 1, 0, 0, 0, 0, 9), 1, 0, []byte{0, 4}},
		{with(1, 0, 0), 2, 1, nil}, {with(1, 0, 0, 0, 1, 0, 0, 0, 0, 9), 2, 1, nil},
		{with(3, 0, 1), 6, 3, nil}, {with(3, 0, 2, 0, 0, 0, 0, 9), 6, 3, nil},
		{with(5, 0, 0, 0, 0), 3, 5, nil}, {with(5, 0, 0, 0, 0, 9), 3, 5, nil},
		{with(9, 1), 0, 9, nil}, {cat(fixed, []byte{0, 0}), 0, 9, nil}, {cat(fixed, []byte{2, 2, 0, 0}), 0, 9, nil},
		{cat(fixed, []byte{1, 2}), 0, 10, nil}, {cat(fixed, []byte{1, 9}), 0, 10, nil}, {cat(fixed, []byte{2, 2, 1}), 0, 10, nil}, {cat(fixed, []byte{3, 9, 2, 0}), 0, 10, nil},
		{cat(fixed, []byte{2, 1, 0}), 4, 10, nil}, {cat(fixed, []byte{4, 2, 0, 0, 0}), 4, 12, nil}, {cat(fixed, []byte{4, 255, 0, 2, 1}), 4, 10, nil},
		{cat(fixed, []byte{3, 2, 1, 2}), 0, 10, nil}, {cat(fixed, []byte{4, 2, 2, 2, 1}), 0, 10, nil}, {cat(fixed, []byte{8, 2, 2, 2, 0, 2, 2, 2, 1}), 0, 14, nil},
		{cat(fixed, []byte{8, 2, 6, 65, 4, 0, 0, 0, 0}), 2, 1, nil}, {cat(fixed, []byte{10, 2, 6, 65, 4, 0, 0, 0, 0, 1, 0}), 4, 18, nil},
	} {
		x, v := open.Parse(c.b)
		if !open.Same(x, open.Open{}) || !finding.Same(v, api.Verdict{Kind: api.Notify, Code: 2, Sub: c.sub, Data: c.data, At: c.at}) {
			t.Error(i, x, v)
		}
	}
}

func TestMake(t *testing.T) { // P17.3
	o := api.Options{AS4: true, MP6: true}
	got := open.Make(o, 70000, -7, 9)
	if !open.Same(got, open.Open{AS: 70000, Hold: -7, ID: 9, Caps: caps{cp(1, 0, 2, 0, 1), cp(2), cp(65, 0, 1, 0x11, 0x70)}}) {
		t.Error(got)
	}
}

func TestSameAndText(t *testing.T) { // P17.4
	full := func() open.Open { return open.Open{AS: 1, Hold: 2, ID: 3, Caps: caps{cp(4, 5)}} }
	if !open.Same(full(), full()) || !open.Same(open.Open{}, open.Open{Caps: caps{}}) {
		t.Error("the same fields")
	}
	for i, change := range []func(*open.Open){
		func(x *open.Open) { x.AS = 9 }, func(x *open.Open) { x.Hold = 9 }, func(x *open.Open) { x.ID = 9 }, func(x *open.Open) { x.Caps = nil }, func(x *open.Open) { x.Caps[0].Data[0] = 9 },
	} {
		x := full()
		change(&x)
		if open.Same(x, full()) || open.Same(full(), x) {
			t.Error(i)
		}
	}
	for _, c := range []struct {
		x    open.Open
		want string
	}{
		{open.Open{AS: 1, ID: 1}, "open as 1 hold 0 id 0.0.0.1"},
		{open.Make(api.Options{AS4: true}, math.MaxUint32, 180, 0x0a000001), "open as 4294967295 hold 180 id 10.0.0.1"},
		{open.Open{AS: 70000, ID: 1}, ""}, {open.Open{}, ""}, {open.Open{AS: 1, ID: 1, Hold: 1}, ""},
	} {
		if s := open.Text(c.x); s != c.want {
			t.Error(c, s)
		}
	}
}

func TestConsequences(t *testing.T) { // P17.5
	for i := 0; i < 64; i++ {
		o := api.Options{AS4: i&1 != 0, Extended: i&2 != 0, MP4: i&4 != 0, MP6: i&8 != 0, Add4: i&16 != 0, Add6: i&32 != 0}
		x := open.Make(o, 65535, 90, 7)
		b, ok := open.Bytes(x)
		if got, v := open.Parse(b); !ok || !open.Same(got, x) || v.Kind != api.Accept {
			t.Error(x, got, v)
		}
	}
	rng := rand.New(rand.NewSource(4))
	seed := cat(fixed, []byte{22, 2, 8, 65, 4, 0, 1, 0, 0, 2, 0, 2, 0, 2, 8, 1, 4, 0, 2, 0, 1, 6, 0})
	accepted := 0
	for range 50000 {
		b := slices.Clone(seed)
		for range rng.Intn(4) {
			b[rng.Intn(len(b))] = byte(rng.Intn(256) >> rng.Intn(8))
		}
		x, v := open.Parse(b)
		if !finding.Proper(v) || v.Kind != api.Notify && v.Kind != api.Accept {
			t.Fatal(b, v)
		}
		if v.Kind == api.Notify {
			continue
		}
		accepted++
		form, ok := open.Bytes(x)
		again, v := open.Parse(form)
		if !ok || len(form) > len(b) || !open.Same(x, again) || v.Kind != api.Accept {
			t.Fatal(b, x)
		}
	}
	if accepted == 0 {
		t.Error("nothing was accepted")
	}
}
