package update_test

import (
	"bytes"
	"math/rand"
	"slices"
	"testing"

	"peerage/api"
	"peerage/finding"
	"peerage/prefix"
	"peerage/update"
)

var (
	plain  = api.Options{MP4: true, MP6: true}
	add    = api.Options{Add4: true}
	origin = api.Attr{Type: api.Origin}
	path   = api.Attr{Type: api.Path}
	hop    = api.Attr{Type: api.NextHop, N: 1}
	reach  = api.Attr{Type: api.Reach, Fam: 2, Bytes: make([]byte, 16), Routes: []api.Route{route(0, "1:0:0:0:0:0:0:0/16")}}
	ten    = route(0, "10.0.0.0/8")
)

func route(id uint32, text string) api.Route {
	p, ok := prefix.Parse(text)
	if !ok {
		panic(text)
	}
	return api.Route{Path: id, Prefix: p}
}

func routes(l ...api.Route) []api.Route { return l }
func list(l ...api.Attr) []api.Attr     { return l }

func cat(parts ...[]byte) []byte { return bytes.Join(parts, nil) }

// body returns an update with some parts, right or wrong.
func body(withdrawn, attrs, routes []byte) []byte {
	return cat([]byte{byte(len(withdrawn) >> 8), byte(len(withdrawn))}, withdrawn, []byte{byte(len(attrs) >> 8), byte(len(attrs))}, attrs, routes)
}

var needed = []byte{64, 1, 1, 0, 64, 2, 0, 64, 3, 4, 0, 0, 0, 1} // the form of Origin, Path and NextHop

func TestLack(t *testing.T) { // P15.1
	empty := reach
	empty.Routes = nil
	for i, c := range []struct {
		u    update.Update
		want []int
	}{
		{update.Update{}, nil}, {update.Update{Withdrawn: routes(ten)}, nil}, {update.Update{Attrs: list(origin)}, nil},
		{update.Update{Routes: routes(ten)}, []int{1, 2, 3}}, {update.Update{Routes: routes(ten), Attrs: list(path)}, []int{1, 3}},
		{update.Update{Routes: routes(ten), Attrs: list(origin, path, hop)}, nil}, {update.Update{Routes: routes(ten), Attrs: list(hop, origin)}, []int{2}},
		{update.Update{Attrs: list(reach)}, []int{1, 2}}, {update.Update{Attrs: list(origin, reach)}, []int{2}}, {update.Update{Attrs: list(origin, path, reach)}, nil}, {update.Update{Attrs: list(empty)}, nil},
		{update.Update{Attrs: list(empty, reach)}, []int{1, 2}}, {update.Update{Routes: routes(ten), Attrs: list(reach)}, []int{1, 2, 3}},
		{update.Update{Attrs: list(api.Attr{Type: api.Unreach, Fam: 2, Routes: reach.Routes})}, nil},
	} {
		if got := update.Lack(c.u); !slices.Equal(got, c.want) {
			t.Error(i, got)
		}
	}
}

func TestValidAndBytes(t *testing.T) { // P15.1
	for i, c := range []struct {
		o    api.Options
		u    update.Update
		want []byte
	}{
		{plain, update.Update{}, []byte{0, 0, 0, 0}},
		{plain, update.Update{Withdrawn: routes(ten)}, []byte{0, 2, 8, 10, 0, 0}},
		{add, update.Update{Withdrawn: routes(route(5, "10.0.0.0/8"))}, []byte{0, 6, 0, 0, 0, 5, 8, 10, 0, 0}},
		{plain, update.Update{Attrs: list(origin)}, []byte{0, 0, 0, 4, 64, 1, 1, 0}},
		{plain, update.Update{Withdrawn: routes(ten, ten), Attrs: list(origin, path, hop), Routes: routes(ten)}, body([]byte{8, 10, 8, 10}, needed, []byte{8, 10})},
		{plain, update.Update{Attrs: list(origin, path, reach)}, body(nil, cat([]byte{64, 1, 1, 0, 64, 2, 0, 128, 14, 24, 0, 2, 1, 16}, make([]byte, 17), []byte{16, 0, 1}), nil)},
		{plain, update.Update{Routes: routes(ten)}, nil},
		{plain, update.Update{Attrs: list(origin, hop), Routes: routes(ten)}, nil},
		{plain, update.Update{Attrs: list(origin, reach)}, nil},
		{plain, update.Update{Attrs: list(path, origin)}, nil},
		{plain, update.Update{Withdrawn: routes(route(5, "10.0.0.0/8"))}, nil},
		{plain, update.Update{Withdrawn: routes(route(0, "1:0:0:0:0:0:0:0/16"))}, nil},
		{plain, update.Update{Attrs: list(origin, path, hop), Routes: routes(api.Route{})}, nil},
		{api.Options{}, update.Update{Attrs: list(origin, path, reach)}, nil},
	} {
		b, ok := update.Bytes(c.o, c.u)
		if ok != (c.want != nil) || !bytes.Equal(b, c.want) || update.Valid(c.o, c.u) != ok {
			t.Error(i, b, ok)
		}
	}
}

func TestTooLong(t *testing.T) { // P15.1
	big := func(n int) []api.Attr { return list(api.Attr{Type: 99, Partial: true, Bytes: make([]byte, n)}) }
	for _, c := range []struct {
		u    update.Update
		want bool
	}{
		{update.Update{Attrs: big(65508)}, true}, {update.Update{Attrs: big(65509)}, false}, {update.Update{Attrs: big(65506), Withdrawn: routes(ten)}, true}, {update.Update{Attrs: big(65507), Withdrawn: routes(ten)}, false},
		{update.Update{Withdrawn: slices.Repeat(routes(ten), 32756)}, true}, {update.Update{Withdrawn: slices.Repeat(routes(ten), 32757)}, false},
	} {
		b, ok := update.Bytes(plain, c.u)
		if ok != c.want || update.Valid(plain, c.u) != c.want || ok && len(b) != 65516 || !ok && len(b) != 0 {
			t.Error(c.want, ok, len(b))
		}
	}
}

func TestParse(t *testing.T) { // P15.2
	notify := func(sub, at int, data ...byte) api.Verdict {
		return api.Verdict{Kind: api.Notify, Code: 3, Sub: sub, Data: data, At: at}
	}
	withdraw := func(at int) api.Verdict { return api.Verdict{Kind: api.Withdraw, At: at} }
	discard := func(at int) api.Verdict { return api.Verdict{Kind: api.Discard, At: at} }
	ok := api.Verdict{}
	all := list(origin, path, hop)
	bad := []byte{33, 1}
	for i, c := range []struct {
		o    api.Options
		b    []byte
		want update.Update
		v    api.Verdict
	}{
		{plain, []byte{0, 0, 0, 0}, update.Update{}, ok},
		{plain, nil, update.Update{}, notify(1, 0)}, {plain, []byte{0}, update.Update{}, notify(1, 0)}, {plain, []byte{0, 2, 8}, update.Update{}, notify(1, 0)}, {plain, []byte{0, 0}, update.Update{}, notify(1, 2)},
		{plain, []byte{0, 2, 8, 10, 0}, update.Update{}, notify(1, 4)}, {plain, []byte{0, 2, 33, 1, 0, 9, 1}, update.Update{}, notify(1, 4)}, {plain, []byte{0, 0, 0, 1}, update.Update{}, notify(1, 2)},
		{plain, body([]byte{8, 10}, nil, nil), update.Update{Withdrawn: routes(ten)}, ok},
		{add, body([]byte{0, 0, 0, 5, 8, 10}, nil, nil), update.Update{Withdrawn: routes(route(5, "10.0.0.0/8"))}, ok},
		{plain, body(cat([]byte{8, 10}, bad), nil, nil), update.Update{}, notify(10, 4)},
		{plain, body(nil, needed, []byte{8, 10}), update.Update{Attrs: all, Routes: routes(ten)}, ok},
		{plain, body([]byte{8, 10}, needed, []byte{8, 10, 8, 10}), update.Update{Withdrawn: routes(ten), Attrs: all, Routes: routes(ten, ten)}, ok},
		{plain, body(nil, needed, cat([]byte{8, 10}, bad)), update.Update{}, notify(10, 20)},
		{plain, body(bad, needed, bad), update.Update{}, notify(10, 2)},
		{plain, body(nil, nil, []byte{8, 10}), update.Update{Routes: routes(ten)}, withdraw(2)},
		{plain, body([]byte{8, 10}, needed[:7], []byte{8, 10}), update.Update{Withdrawn: routes(ten), Attrs: list(origin, path), Routes: routes(ten)}, withdraw(4)},
		{plain, body(nil, cat([]byte{64, 6, 1, 0}, needed), []byte{8, 10}), update.Update{Attrs: all, Routes: routes(ten)}, discard(4)},
		{plain, body(nil, cat(needed, []byte{64, 6, 1, 0, 64, 1, 1, 0}), []byte{8, 10}), update.Update{Attrs: all, Routes: routes(ten)}, discard(18)},
		{plain, body(nil, cat(needed, []byte{64, 6, 1, 0, 64, 5, 1, 0}), []byte{8, 10}), update.Update{Attrs: all, Routes: routes(ten)}, withdraw(22)},
		{plain, body(nil, []byte{64, 1, 1, 9, 64, 2, 0, 64, 3, 4, 0, 0, 0, 1}, []byte{8, 10}), update.Update{Attrs: list(path, hop), Routes: routes(ten)}, withdraw(2)},
		{plain, body(nil, []byte{64, 1, 1, 9}, nil), update.Update{}, withdraw(4)},
		{plain, body(nil, cat(needed, []byte{128, 14, 3, 0, 2, 1}), []byte{8, 10}), update.Update{Attrs: all, Routes: routes(ten)}, api.Verdict{Kind: api.Reset, Sub: 2, At: 24}},
		{plain, body(nil, cat([]byte{64, 5, 1, 0}, needed, []byte{128, 14, 3, 0, 2, 1, 64, 99, 1, 5}), []byte{8, 10}), update.Update{}, notify(2, 28, 64, 99, 1, 5)},
		{plain, body(bad, cat(needed, []byte{64, 99, 1, 5}), []byte{8, 10}), update.Update{}, notify(10, 2)},
		{plain, body(nil, cat([]byte{64, 99, 1, 5}, needed), bad), update.Update{}, notify(2, 4, 64, 99, 1, 5)},
		{plain, body(nil, cat(needed, []byte{64}), []byte{8, 10}), update.Update{Attrs: all, Routes: routes(ten)}, withdraw(18)},
		{plain, body(nil, []byte{128, 15, 3, 0, 2, 1, 128, 15, 3, 0, 1, 1}, nil), update.Update{}, notify(1, 10)},
		{api.Options{}, body(nil, []byte{128, 15, 3, 0, 2, 1}, nil), update.Update{}, discard(7)},
		{plain, body(nil, []byte{128, 99, 1, 7}, nil), update.Update{}, ok},
	} {
		u, v := update.Parse(c.o, c.b)
		if !update.Same(u, c.want) || !finding.Same(v, c.v) {
			t.Error(i, u, v)
		}
	}
}

// full has all fields.
func full() update.Update {
	return update.Update{Withdrawn: routes(ten, ten), Attrs: list(origin, api.Attr{Type: 8, List: []uint32{1}}), Routes: routes(route(3, "10.0.0.0/8"))}
}

func TestSame(t *testing.T) { // P15.3
	if !update.Same(full(), full()) || !update.Same(update.Update{}, update.Update{Withdrawn: routes(), Attrs: list(), Routes: routes()}) {
		t.Error("the same fields")
	}
	for i, change := range []func(*update.Update){
		func(u *update.Update) { u.Withdrawn = u.Withdrawn[:1] }, func(u *update.Update) { u.Withdrawn[1].Path = 1 }, func(u *update.Update) { u.Attrs = u.Attrs[:1] }, func(u *update.Update) { u.Attrs[1].List[0] = 2 },
		func(u *update.Update) { u.Attrs[0], u.Attrs[1] = u.Attrs[1], u.Attrs[0] }, func(u *update.Update) { u.Routes = nil }, func(u *update.Update) { u.Routes[0].Prefix.Len = 9 },
		func(u *update.Update) { u.Routes = append(u.Routes, ten) },
	} {
		u := full()
		change(&u)
		if update.Same(u, full()) || update.Same(full(), u) {
			t.Error(i)
		}
	}
}

func TestCloneAndEmpty(t *testing.T) { // P15.3
	u := full()
	c := update.Clone(u)
	if !update.Same(u, c) || !update.Same(update.Clone(update.Update{}), update.Update{}) {
		t.Error(c)
	}
	c.Withdrawn[0].Path, c.Attrs[0].N, c.Attrs[1].List[0], c.Routes[0].Path = 9, 9, 9, 9
	if !update.Same(u, full()) {
		t.Error("the copy shares memory")
	}
	for i, x := range []struct {
		u    update.Update
		want bool
	}{
		{update.Update{}, true}, {update.Update{Withdrawn: routes(), Attrs: list(), Routes: routes()}, true},
		{update.Update{Withdrawn: routes(ten)}, false}, {update.Update{Attrs: list(origin)}, false}, {update.Update{Routes: routes(ten)}, false},
	} {
		if update.Empty(x.u) != x.want {
			t.Error(i)
		}
	}
}

func TestConsequences(t *testing.T) { // P15.4
	for i, u := range []update.Update{
		{}, {Withdrawn: routes(ten, ten)}, {Withdrawn: routes(ten), Attrs: list(origin, path, hop), Routes: routes(ten, route(0, "0.0.0.0/0"))}, {Attrs: list(origin, path, reach)}, {Attrs: list(api.Attr{Partial: true})},
	} {
		b, ok := update.Bytes(plain, u)
		if got, v := update.Parse(plain, b); !ok || !update.Same(got, u) || !finding.Same(v, api.Verdict{}) {
			t.Error(i, got, v)
		}
	}
	rng := rand.New(rand.NewSource(3))
	seed := body([]byte{8, 10}, cat(needed, []byte{128, 14, 12, 0, 1, 1, 4, 1, 2, 3, 4, 0, 8, 9, 0, 192, 8, 4, 0, 0, 0, 1}), []byte{8, 10})
	counts := map[int]int{}
	for range 8000 {
		b := slices.Clone(seed)
		for range rng.Intn(4) {
			b[rng.Intn(len(b))] = byte(rng.Intn(256) >> rng.Intn(8))
		}
		for _, o := range []api.Options{{}, plain, add, {AS4: true, MP4: true, Add4: true}} {
			u, v := update.Parse(o, b)
			counts[v.Kind]++
			if !finding.Proper(v) || v.Kind == api.Notify && !update.Empty(u) {
				t.Fatal(b, v)
			}
			if v.Kind != api.Accept {
				continue
			}
			form, ok := update.Bytes(o, u)
			again, v2 := update.Parse(o, form)
			if !ok || !update.Same(u, again) || v2.Kind != api.Accept {
				t.Fatal(b, u)
			}
		}
	}
	for kind := api.Accept; kind <= api.Notify; kind++ {
		if counts[kind] == 0 {
			t.Error("no verdict of the kind", kind)
		}
	}
}
