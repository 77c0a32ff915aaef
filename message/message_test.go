package message_test

import (
	"bytes"
	"math"
	"math/rand"
	"slices"
	"strings"
	"testing"

	"peerage/api"
	"peerage/capability"
	"peerage/finding"
	"peerage/message"
	"peerage/notice"
	"peerage/open"
	"peerage/prefix"
	"peerage/refresh"
	"peerage/update"
)

type msg = message.Message

var (
	plain    = api.Options{MP4: true, MP6: true}
	extended = api.Options{Extended: true, AS4: true}
	ten      = route(0, "10.0.0.0/8")
	anOpen   = open.Open{AS: 1, ID: 1}
	anUpdate = update.Update{
		Withdrawn: []api.Route{ten, ten},
		Attrs:     []api.Attr{{Type: api.Origin}, {Type: api.Path}, {Type: api.NextHop, N: 1}},
		Routes:    []api.Route{ten},
	}
	aNotice  = notice.Notice{Code: 3, Sub: 10, Data: []byte{1}}
	aRefresh = refresh.Refresh{AFI: 2, Sub: 1, SAFI: 1}
)

func route(id uint32, text string) api.Route {
	p, ok := prefix.Parse(text)
	if !ok {
		panic(text)
	}
	return api.Route{Path: id, Prefix: p}
}

func valid() []msg {
	return []msg{
		{Kind: 1, Open: anOpen}, {Kind: 2}, {Kind: 2, Update: anUpdate}, {Kind: 3}, {Kind: 3, Notice: aNotice}, {Kind: 4}, {Kind: 5}, {Kind: 5, Refresh: aRefresh},
	}
}

// wire returns the bytes of a message, right or wrong.
func wire(kind int, body ...byte) []byte {
	n := 19 + len(body)
	return slices.Concat(bytes.Repeat([]byte{255}, 16), []byte{byte(n >> 8), byte(n), byte(kind)}, body)
}

func TestValidAndBytes(t *testing.T) { // P20.1
	for i, c := range []struct {
		m    msg
		want []byte
	}{
		{msg{Kind: 4}, wire(4)},
		{msg{Kind: 1, Open: anOpen}, wire(1, 4, 0, 1, 0, 0, 0, 0, 0, 1, 0)},
		{msg{Kind: 2}, wire(2, 0, 0, 0, 0)},
		{msg{Kind: 2, Update: update.Update{Withdrawn: []api.Route{ten}}}, wire(2, 0, 2, 8, 10, 0, 0)},
		{msg{Kind: 3, Notice: aNotice}, wire(3, 3, 10, 1)},
		{msg{Kind: 5, Refresh: aRefresh}, wire(5, 0, 2, 1, 1)},
		{msg{Kind: 4, Open: open.Open{Caps: []capability.Cap{}}, Update: update.Update{Routes: []api.Route{}}, Notice: notice.Notice{Data: []byte{}}}, wire(4)},
	} {
		b, ok := message.Bytes(plain, c.m)
		if !ok || !bytes.Equal(b, c.want) || !message.Valid(plain, c.m) {
			t.Error(i, b, ok)
		}
	}
	for i, m := range []msg{
		{}, {Kind: 6}, {Kind: -1}, {Kind: math.MaxInt}, {Kind: 1}, {Kind: 1, Open: open.Open{AS: 70000, ID: 1}},
		{Kind: 2, Update: update.Update{Routes: []api.Route{ten}}}, {Kind: 2, Update: update.Update{Withdrawn: []api.Route{route(5, "10.0.0.0/8")}}},
		{Kind: 3, Notice: notice.Notice{Code: 256}}, {Kind: 5, Refresh: refresh.Refresh{AFI: -1}},
		{Kind: 4, Open: anOpen}, {Kind: 4, Open: open.Open{Hold: 1}}, {Kind: 4, Update: anUpdate}, {Kind: 4, Notice: aNotice}, {Kind: 4, Refresh: aRefresh},
		{Kind: 1, Open: anOpen, Notice: notice.Notice{Sub: 1}}, {Kind: 2, Refresh: refresh.Refresh{SAFI: 1}}, {Kind: 3, Open: open.Open{Caps: []capability.Cap{{}}}}, {Kind: 5, Update: update.Update{Attrs: []api.Attr{{}}}},
	} {
		b, ok := message.Bytes(plain, m)
		if ok || len(b) != 0 || message.Valid(plain, m) || message.Text(plain, m) != "" {
			t.Error(i, m)
		}
	}
}

func TestLengths(t *testing.T) { // P20.1
	for _, c := range []struct {
		o    api.Options
		n    int
		want bool
	}{{plain, 4075, true}, {plain, 4076, false}, {extended, 4076, true}, {extended, 65514, true}, {extended, 65515, false}} {
		m := msg{Kind: 3, Notice: notice.Notice{Data: make([]byte, c.n)}}
		b, ok := message.Bytes(c.o, m)
		if ok != c.want || message.Valid(c.o, m) != c.want || ok && len(b) != c.n+21 {
			t.Error(c, len(b), ok)
		}
	}
}

func TestParse(t *testing.T) { // P20.2
	attrs := []byte{64, 1, 1, 0, 64, 2, 0, 64, 3, 4, 0, 0, 0, 1}
	for i, c := range []struct {
		b    []byte
		want msg
		v    api.Verdict
	}{
		{wire(4), msg{Kind: 4}, api.Verdict{}},
		{wire(3, 0, 0), msg{Kind: 3}, api.Verdict{}},
		{wire(3, 255, 254, 1), msg{Kind: 3, Notice: notice.Notice{Code: 255, Sub: 254, Data: []byte{1}}}, api.Verdict{}},
		{wire(5, 1, 2, 3, 4), msg{Kind: 5, Refresh: refresh.Refresh{AFI: 258, Sub: 3, SAFI: 4}}, api.Verdict{}},
		{wire(1, 4, 0, 1, 0, 0, 0, 0, 0, 1, 0), msg{Kind: 1, Open: anOpen}, api.Verdict{}},
		{wire(1, 4, 0, 1, 0, 0, 0, 0, 0, 0, 0), msg{}, api.Verdict{Kind: 4, Code: 2, Sub: 3, At: 24}},
		{wire(1, 3, 0, 1, 0, 0, 0, 0, 0, 0, 0), msg{}, api.Verdict{Kind: 4, Code: 2, Sub: 1, Data: []byte{0, 4}, At: 19}},
		{wire(2, 0, 0, 0, 0), msg{Kind: 2}, api.Verdict{}},
		{wire(2, 0, 0, 0, 0, 8, 10), msg{Kind: 2, Update: update.Update{Routes: []api.Route{ten}}}, api.Verdict{Kind: 2, At: 21}},
		{wire(2, slices.Concat([]byte{0, 4, 8, 10, 8, 10, 0, 18}, attrs, []byte{64, 6, 1, 0, 8, 10})...), msg{Kind: 2, Update: anUpdate}, api.Verdict{Kind: 1, At: 41}},
		{wire(2, 0, 0, 0, 3, 128, 14, 3), msg{Kind: 2}, api.Verdict{Kind: 2, At: 23}},
		{wire(2, 0, 0, 0, 6, 128, 14, 3, 0, 2, 1), msg{Kind: 2}, api.Verdict{Kind: 3, Sub: 2, At: 29}},
		{wire(2, 0, 0, 0, 0, 33), msg{}, api.Verdict{Kind: 4, Code: 3, Sub: 10, At: 23}},
		{wire(2, 0, 9, 0, 0), msg{}, api.Verdict{Kind: 4, Code: 3, Sub: 1, At: 19}},
		{nil, msg{}, api.Verdict{Kind: 4, Code: 1, Sub: 2}},
		{[]byte{255, 0}, msg{}, api.Verdict{Kind: 4, Code: 1, Sub: 1, At: 1}},
		{wire(9), msg{}, api.Verdict{Kind: 4, Code: 1, Sub: 3, Data: []byte{9}, At: 18}},
		{wire(4, 1), msg{}, api.Verdict{Kind: 4, Code: 1, Sub: 2, Data: []byte{0, 20}, At: 16}},
		{append(wire(4), 1), msg{}, api.Verdict{Kind: 4, Code: 1, Sub: 2, Data: []byte{0, 19}, At: 16}},
		{wire(2, 0, 0, 0, 0)[:22], msg{}, api.Verdict{Kind: 4, Code: 1, Sub: 2, Data: []byte{0, 23}, At: 16}},
		{append(wire(2, 0, 0, 0, 0), wire(4)...), msg{}, api.Verdict{Kind: 4, Code: 1, Sub: 2, Data: []byte{0, 23}, At: 16}},
		{wire(2, make([]byte, 4078)...), msg{}, api.Verdict{Kind: 4, Code: 1, Sub: 2, Data: []byte{16, 1}, At: 16}},
	} {
		m, v := message.Parse(plain, c.b)
		if m.Kind != c.want.Kind || !message.Same(m, c.want) || !finding.Same(v, c.v) {
			t.Error(i, m, v)
		}
	}
	b := wire(3, 1, 2, 3)
	m, _ := message.Parse(plain, b)
	if m.Notice.Data[0] = 9; b[21] != 3 {
		t.Error("the message shares memory with the bytes")
	}
	_, v := message.Parse(plain, b[:21])
	if v.Data[0] = 9; b[16] != 0 {
		t.Error("the verdict shares memory with the bytes")
	}
}

func TestSame(t *testing.T) { // P20.3
	l := append(valid(), msg{}, msg{Kind: 6}, msg{Kind: 1}, msg{Kind: 2, Update: update.Update{Withdrawn: []api.Route{ten}}}, msg{Kind: 3, Notice: notice.Notice{Sub: 1}}, msg{Kind: 5, Refresh: refresh.Refresh{SAFI: 1}})
	for i, a := range l {
		for j, b := range l {
			if message.Same(a, b) != (i == j) {
				t.Error(a, b)
			}
		}
	}
}

func TestText(t *testing.T) { // P20.3
	for _, c := range []struct {
		m    msg
		want string
	}{
		{msg{Kind: 1, Open: anOpen}, "open as 1 hold 0 id 0.0.0.1"},
		{msg{Kind: 3, Notice: aNotice}, "notification update/network 3/10 01"},
		{msg{Kind: 4}, "keepalive"},
		{msg{Kind: 5, Refresh: aRefresh}, "begin ipv6"},
		{msg{Kind: 2}, "update"},
		{msg{Kind: 2, Update: anUpdate}, "update withdraw 10.0.0.0/8 10.0.0.0/8 [origin igp] [path] [nexthop 0.0.0.1] announce 10.0.0.0/8"},
		{msg{Kind: 2, Update: update.Update{Withdrawn: []api.Route{ten}}}, "update withdraw 10.0.0.0/8"},
		{msg{Kind: 2, Update: update.Update{Attrs: []api.Attr{{Type: api.Unreach, Fam: 2}}}}, "update [unreach ipv6]"},
	} {
		if s := message.Text(plain, c.m); s != c.want {
			t.Error(c.want, s)
		}
	}
	withPath := msg{Kind: 2, Update: update.Update{Withdrawn: []api.Route{route(7, "10.0.0.0/8")}}}
	if s := message.Text(api.Options{Add4: true}, withPath); s != "update withdraw 10.0.0.0/8#7" {
		t.Error(s)
	}
	wide := msg{Kind: 2, Update: update.Update{Attrs: []api.Attr{{Type: api.Path, Segs: []api.Segment{{Kind: 2, AS: []uint32{70000}}}}}}}
	if s := message.Text(extended, wide); s != "update [path [70000]]" || message.Text(plain, wide) != "" {
		t.Error(s)
	}
}

func TestReply(t *testing.T) { // P20.4 and P20.5
	v := api.Verdict{Kind: 4, Code: 3, Sub: 2, Data: make([]byte, 70000), At: 7}
	for _, o := range []api.Options{plain, extended} {
		m, ok := message.Reply(o, v)
		n, _ := notice.Of(o, v)
		if !ok || !message.Same(m, msg{Kind: 3, Notice: n}) || !message.Valid(o, m) {
			t.Error(m.Kind, ok)
		}
	}
	for _, v := range []api.Verdict{{}, {Kind: 1}, {Kind: 3, Sub: 1}, {Kind: 4}, {Kind: 4, Code: 9}} {
		if m, ok := message.Reply(plain, v); ok || m.Kind != 0 || len(m.Notice.Data) != 0 {
			t.Error(v, m)
		}
	}
}

func TestConsequences(t *testing.T) { // P20.5
	for _, m := range valid() {
		b, ok := message.Bytes(plain, m)
		if got, v := message.Parse(plain, b); !ok || !message.Same(got, m) || !finding.Same(v, api.Verdict{}) {
			t.Error(m, got, v)
		}
	}
	rng := rand.New(rand.NewSource(5))
	var seeds [][]byte
	for _, m := range valid() {
		b, _ := message.Bytes(plain, m)
		seeds = append(seeds, b)
	}
	for range 20000 {
		b := slices.Clone(seeds[rng.Intn(len(seeds))])
		for range rng.Intn(3) {
			b[16+rng.Intn(len(b)-16)] = byte(rng.Intn(256) >> rng.Intn(8))
		}
		for _, o := range []api.Options{{}, plain, {AS4: true, Add4: true, Extended: true}} {
			m, v := message.Parse(o, b)
			if !finding.Proper(v) {
				t.Fatal(b, v)
			}
			if v.Kind <= api.Discard && !message.Valid(o, m) || v.Kind == api.Notify && m.Kind != 0 || v.Kind != api.Notify && m.Kind != int(b[18]) {
				t.Fatal(b, m, v)
			}
			if v.Kind == api.Accept && strings.TrimSpace(message.Text(o, m)) == "" {
				t.Fatal(b, m)
			}
			reply, ok := message.Reply(o, v)
			if ok != (v.Kind == api.Notify) || ok && !message.Valid(o, reply) {
				t.Fatal(b, v, reply)
			}
		}
	}
}
