package canon_test

import (
	"bytes"
	"math/rand"
	"slices"
	"testing"

	"peerage/api"
	"peerage/canon"
	"peerage/capability"
	"peerage/finding"
	"peerage/message"
	"peerage/notice"
	"peerage/open"
	"peerage/prefix"
	"peerage/update"
)

var (
	plain   = api.Options{MP4: true, MP6: true}
	a, b, c = route("10.0.0.0/8"), route("10.1.0.0/16"), route("0.0.0.0/0")
	x, y    = route("1:0:0:0:0:0:0:0/16"), route("0:0:0:0:0:0:0:0/0")
	needed  = []api.Attr{{Type: api.Origin}, {Type: api.Path}, {Type: api.NextHop, N: 1}}
)

func route(text string) api.Route {
	p, ok := prefix.Parse(text)
	if !ok {
		panic(text)
	}
	return api.Route{Prefix: p}
}

func routes(l ...api.Route) []api.Route { return l }

func reach(fam int, l ...api.Route) api.Attr {
	n := map[int]int{1: 4, 2: 16}[fam]
	return api.Attr{Type: api.Reach, Fam: fam, Bytes: make([]byte, n), Routes: l}
}

func unreach(fam int, l ...api.Route) api.Attr {
	return api.Attr{Type: api.Unreach, Fam: fam, Routes: l}
}

// wire returns the bytes of a message, right or wrong.
func wire(kind int, body ...byte) []byte {
	n := 19 + len(body)
	return slices.Concat(bytes.Repeat([]byte{255}, 16), []byte{byte(n >> 8), byte(n), byte(kind)}, body)
}

func TestWithdrawals(t *testing.T) { // P24.1
	other := api.Route{Path: 5, Prefix: a.Prefix}
	for i, k := range []struct {
		u    update.Update
		want []update.Update
	}{
		{update.Update{}, nil},
		{update.Update{Attrs: needed}, nil},
		{update.Update{Attrs: []api.Attr{reach(2), unreach(1)}}, nil},
		{update.Update{Routes: routes(a, a)}, []update.Update{{Withdrawn: routes(a)}}},
		{update.Update{Withdrawn: routes(b, a), Attrs: needed, Routes: routes(c, a, other, b)}, []update.Update{{Withdrawn: routes(b, a, c, other)}}},
		{update.Update{Attrs: []api.Attr{reach(2, x, y, x)}}, []update.Update{{Attrs: []api.Attr{unreach(2, x, y)}}}},
		{update.Update{Attrs: []api.Attr{reach(2, x, y), unreach(2, y, y)}}, []update.Update{{Attrs: []api.Attr{unreach(2, y, x)}}}},
		{update.Update{Withdrawn: routes(a), Attrs: []api.Attr{reach(2, x)}, Routes: routes(b)}, []update.Update{{Withdrawn: routes(a, b), Attrs: []api.Attr{unreach(2, x)}}}},
		{update.Update{Withdrawn: routes(a), Attrs: []api.Attr{reach(1, b, a)}}, []update.Update{{Withdrawn: routes(a), Attrs: []api.Attr{unreach(1, b, a)}}}},
		{update.Update{Withdrawn: routes(c), Attrs: []api.Attr{reach(2, x), unreach(1, a)}}, []update.Update{{Withdrawn: routes(c), Attrs: []api.Attr{unreach(1, a)}}, {Attrs: []api.Attr{unreach(2, x)}}}},
		{update.Update{Withdrawn: routes(c), Attrs: []api.Attr{reach(1, a), unreach(2, x)}}, []update.Update{{Withdrawn: routes(c), Attrs: []api.Attr{unreach(1, a)}}, {Attrs: []api.Attr{unreach(2, x)}}}},
		{update.Update{Attrs: []api.Attr{reach(1), unreach(2, x)}}, []update.Update{{Attrs: []api.Attr{unreach(2, x)}}}},
	} {
		if got := canon.Withdrawals(k.u); !slices.EqualFunc(got, k.want, update.Same) {
			t.Error(i, got)
		}
	}
	u := update.Update{Withdrawn: routes(a), Attrs: []api.Attr{reach(2, x)}}
	got := canon.Withdrawals(u)
	got[0].Withdrawn[0], got[0].Attrs[0].Routes[0] = c, y
	if u.Withdrawn[0] != a || u.Attrs[0].Routes[0] != x {
		t.Error("the result shares memory with the argument")
	}
}

func TestForward(t *testing.T) { // P24.1
	up := message.Message{Kind: 2, Update: update.Update{Routes: routes(a, a), Attrs: needed}}
	gone := message.Message{Kind: 2, Update: update.Update{Withdrawn: routes(a)}}
	keep := message.Message{Kind: 4}
	for i, k := range []struct {
		m    message.Message
		v    api.Verdict
		want []message.Message
	}{
		{up, api.Verdict{}, []message.Message{up}}, {up, api.Verdict{Kind: 1, At: 9}, []message.Message{up}},
		{up, api.Verdict{Kind: 2, At: 9}, []message.Message{gone}}, {up, api.Verdict{Kind: 3, Sub: 1}, []message.Message{gone}}, {up, api.Verdict{Kind: 4, Code: 3}, nil},
		{message.Message{}, api.Verdict{Kind: 4, Code: 3}, nil}, {keep, api.Verdict{}, []message.Message{keep}}, {message.Message{Kind: 2}, api.Verdict{Kind: 2}, nil}, {message.Message{Kind: 2}, api.Verdict{}, []message.Message{{Kind: 2}}},
	} {
		if got := canon.Forward(k.m, k.v); !slices.EqualFunc(got, k.want, message.Same) {
			t.Error(i, got)
		}
	}
	m := message.Message{Kind: 1, Open: open.Open{AS: 1, ID: 1, Caps: []capability.Cap{{Code: 9, Data: []byte{1}}}}, Notice: notice.Notice{Data: []byte{2}}, Update: update.Update{Routes: routes(a)}}
	got := canon.Forward(m, api.Verdict{})[0]
	got.Open.Caps[0].Data[0], got.Open.Caps[0].Code, got.Notice.Data[0], got.Update.Routes[0] = 8, 8, 8, b
	if m.Open.Caps[0].Code != 9 || m.Open.Caps[0].Data[0] != 1 || m.Notice.Data[0] != 2 || m.Update.Routes[0] != a {
		t.Error("the result shares memory with the argument")
	}
}

func TestBytes(t *testing.T) { // P24.2
	keep, empty := message.Message{Kind: 4}, message.Message{Kind: 2}
	for i, k := range []struct {
		l    []message.Message
		want []byte
		ok   bool
	}{
		{nil, nil, true}, {[]message.Message{keep}, wire(4), true}, {[]message.Message{keep, empty, keep}, slices.Concat(wire(4), wire(2, 0, 0, 0, 0), wire(4)), true},
		{[]message.Message{{}}, nil, false}, {[]message.Message{keep, {Kind: 1}}, nil, false}, {[]message.Message{{Kind: 9}, keep}, nil, false},
	} {
		if got, ok := canon.Bytes(plain, k.l...); ok != k.ok || !bytes.Equal(got, k.want) {
			t.Error(i, got, ok)
		}
	}
}

func TestHandle(t *testing.T) { // P24.2
	for i, k := range []struct {
		b, want []byte
		v       api.Verdict
	}{
		{wire(4), wire(4), api.Verdict{}},
		{wire(2, 0, 2, 9, 10, 0), nil, api.Verdict{Kind: 4, Code: 3, Sub: 1, At: 23}},
		{wire(2, 0, 3, 9, 10, 255, 0, 0), wire(2, 0, 3, 9, 10, 128, 0, 0), api.Verdict{}},
		{wire(2, 0, 0, 0, 0, 8, 10, 8, 10), wire(2, 0, 2, 8, 10, 0, 0), api.Verdict{Kind: 2, At: 21}},
		{wire(2, 0, 0, 0, 9, 64, 6, 1, 0, 80, 1, 0, 1, 0), wire(2, 0, 0, 0, 4, 64, 1, 1, 0), api.Verdict{Kind: 1, At: 23}},
		{wire(2, 0, 0, 0, 6, 128, 14, 3, 0, 2, 1), nil, api.Verdict{Kind: 3, Sub: 2, At: 29}},
		{wire(2, 0, 2, 8, 10, 0, 6, 128, 14, 3, 0, 2, 1), wire(2, 0, 2, 8, 10, 0, 0), api.Verdict{Kind: 3, Sub: 2, At: 31}},
		{wire(1, 4, 0, 1, 0, 0, 0, 0, 0, 1, 8, 2, 2, 2, 0, 2, 2, 9, 0), wire(1, 4, 0, 1, 0, 0, 0, 0, 0, 1, 6, 2, 4, 2, 0, 9, 0), api.Verdict{}},
		{wire(4)[:5], nil, api.Verdict{Kind: 4, Code: 1, Sub: 2, At: 5}},
	} {
		if got, v := canon.Handle(plain, k.b); !bytes.Equal(got, k.want) || !finding.Same(v, k.v) {
			t.Error(i, got, v)
		}
	}
}

func TestGone(t *testing.T) { // P24.3
	for i, k := range []struct {
		u    update.Update
		want []api.Route
	}{
		{update.Update{}, nil}, {update.Update{Routes: routes(a), Attrs: []api.Attr{reach(2, x)}}, nil}, {update.Update{Withdrawn: routes(a, b, a)}, routes(a, b)},
		{update.Update{Withdrawn: routes(b, a), Attrs: []api.Attr{unreach(1, c, a)}}, routes(b, a, c)}, {update.Update{Withdrawn: routes(a), Attrs: []api.Attr{reach(2, y), unreach(2, x, x)}, Routes: routes(b)}, routes(a, x)},
	} {
		if got := canon.Gone(k.u); !slices.Equal(got, k.want) {
			t.Error(i, got)
		}
	}
}

func TestWithdrawalsWithdrawAll(t *testing.T) { // P24.4
	rng := rand.New(rand.NewSource(8))
	some := func(l ...api.Route) []api.Route {
		var out []api.Route
		for range rng.Intn(4) {
			out = append(out, l[rng.Intn(len(l))])
		}
		return out
	}
	for range 2000 {
		u := update.Update{Withdrawn: some(a, b, c), Routes: some(a, b, c)}
		all := slices.Concat(u.Withdrawn, u.Routes)
		for _, make := range []func(int, ...api.Route) api.Attr{reach, unreach} {
			if l := some(a, b, c); rng.Intn(3) == 0 {
				u.Attrs = append(u.Attrs, make(1, l...))
				all = append(all, l...)
			} else if l := some(x, y); rng.Intn(2) == 0 {
				u.Attrs = append(u.Attrs, make(2, l...))
				all = append(all, l...)
			}
		}
		var gone []api.Route
		for _, w := range canon.Withdrawals(u) {
			if _, ok := slices.BinarySearchFunc(w.Attrs, api.Reach, func(x api.Attr, k int) int { return x.Type - k }); ok || len(w.Routes) > 0 || !update.Valid(plain, w) {
				t.Fatal(u, w)
			}
			gone = append(gone, canon.Gone(w)...)
		}
		for _, r := range all {
			if !slices.Contains(gone, r) {
				t.Fatal(u, r)
			}
		}
		for _, r := range gone {
			if !slices.Contains(all, r) {
				t.Fatal(u, r)
			}
		}
	}
}

func TestWhatTakesThePlace(t *testing.T) { // P24.4
	rng := rand.New(rand.NewSource(9))
	var seeds [][]byte
	for _, m := range []message.Message{
		{Kind: 1, Open: open.Make(api.Options{AS4: true, MP6: true}, 70000, 90, 7)},
		{Kind: 2, Update: update.Update{Withdrawn: routes(a), Attrs: append(slices.Clone(needed), reach(2, x, y)), Routes: routes(b, b)}},
		{Kind: 2, Update: update.Update{Attrs: []api.Attr{{Type: 1}, {Type: 2}, reach(1, a), unreach(2, x)}}},
		{Kind: 3, Notice: notice.Notice{Code: 6, Sub: 2, Data: []byte{1}}}, {Kind: 4}, {Kind: 5},
	} {
		form, ok := message.Bytes(plain, m)
		if !ok {
			t.Fatal(m)
		}
		seeds = append(seeds, form)
	}
	for range 20000 {
		in := slices.Clone(seeds[rng.Intn(len(seeds))])
		for range rng.Intn(4) {
			in[16+rng.Intn(len(in)-16)] = byte(rng.Intn(256) >> rng.Intn(8))
		}
		for _, o := range []api.Options{{}, plain, {AS4: true, MP4: true, MP6: true, Add6: true}} {
			m, v := message.Parse(o, in)
			l := canon.Forward(m, v)
			out, ok := canon.Bytes(o, l...)
			if handled, v2 := canon.Handle(o, in); !ok || !bytes.Equal(handled, out) || !finding.Same(v, v2) {
				t.Fatal(in, v, l)
			}
			for _, x := range l {
				form, _ := message.Bytes(o, x)
				again, v := message.Parse(o, form)
				if v.Kind != api.Accept || !message.Same(again, x) || len(form) > len(in) {
					t.Fatal(in, x)
				}
				if next := canon.Forward(again, v); len(next) != 1 || !message.Same(next[0], x) {
					t.Fatal(in, x)
				}
			}
		}
	}
}
