package proxy_test

import (
	"bytes"
	"math"
	"math/rand"
	"slices"
	"testing"

	"peerage/api"
	"peerage/finding"
	"peerage/frame"
	"peerage/message"
	"peerage/notice"
	"peerage/open"
	"peerage/option"
	"peerage/proxy"
)

var everything = api.Options{AS4: true, Extended: true, MP4: true, MP6: true, Add4: true, Add6: true}

// wire returns the bytes of a message, right or wrong.
func wire(kind int, body ...byte) []byte {
	n := 19 + len(body)
	return slices.Concat(bytes.Repeat([]byte{255}, 16), []byte{byte(n >> 8), byte(n), byte(kind)}, body)
}

func openWire(t *testing.T, o api.Options, as uint32) []byte {
	t.Helper()
	b, ok := message.Bytes(api.Options{}, message.Message{Kind: api.Open, Open: open.Make(o, as, 90, as)})
	if !ok {
		t.Fatal(o, as)
	}
	return b
}

func noticeWire(t *testing.T, o api.Options, v api.Verdict) []byte {
	t.Helper()
	m, ok := message.Reply(o, v)
	b, ok2 := message.Bytes(o, m)
	if !ok || !ok2 {
		t.Fatal(v)
	}
	return b
}

var (
	keep  = wire(4)
	empty = wire(2, 0, 0, 0, 0)
)

// ready returns a proxy to which both sides have sent an OPEN.
func ready(t *testing.T, a, b api.Options) *proxy.Proxy {
	t.Helper()
	p := proxy.New()
	for side, o := range []api.Options{a, b} {
		x := openWire(t, o, uint32(side+1))
		if back, on := p.Feed(side, x...); len(back) != 0 || !bytes.Equal(on, x) || p.Ready() != (side == 1) || p.Closed() {
			t.Fatal(side, back, on)
		}
	}
	return p
}

// expectFault checks that the last bytes of a side have made it fail.
func expectFault(t *testing.T, p *proxy.Proxy, back, on []byte, o api.Options, want api.Verdict) {
	t.Helper()
	if !bytes.Equal(back, noticeWire(t, o, want)) || len(on) != 0 || !p.Closed() || !finding.Same(p.Fault(), want) {
		t.Error(back, on, p.Closed(), p.Fault())
	}
	for side := range 2 {
		if back, on := p.Feed(side, slices.Concat(openWire(t, api.Options{}, 1), keep)...); len(back) != 0 || len(on) != 0 || !finding.Same(p.Fault(), want) {
			t.Error("a closed proxy writes", side)
		}
	}
}

func TestNew(t *testing.T) { // P25.1 and P25.2
	p := proxy.New()
	if p.Ready() || p.Closed() || p.Options(0) != (api.Options{}) || p.Options(1) != (api.Options{}) || p.Count(0) != 0 || p.Count(1) != 0 || !finding.Same(p.Fault(), api.Verdict{}) {
		t.Error("a new proxy")
	}
	if back, on := p.Feed(0); len(back) != 0 || len(on) != 0 {
		t.Error(back, on)
	}
}

func TestStates(t *testing.T) { // P25.1
	state := api.Verdict{Kind: api.Notify, Code: 5}
	x, refresh := openWire(t, api.Options{}, 1), wire(5, 0, 1, 0, 1)
	for i, c := range []struct {
		before [2][]byte
		side   int
		bad    []byte
	}{
		{[2][]byte{}, 0, keep}, {[2][]byte{}, 1, keep}, {[2][]byte{}, 0, empty}, {[2][]byte{}, 1, refresh},
		{[2][]byte{x, nil}, 1, keep}, {[2][]byte{x, nil}, 0, empty}, {[2][]byte{x, nil}, 1, empty}, {[2][]byte{nil, x}, 1, refresh}, {[2][]byte{nil, x}, 0, refresh},
		{[2][]byte{x, nil}, 0, x}, {[2][]byte{x, x}, 0, x}, {[2][]byte{x, x}, 1, x}, {[2][]byte{}, 0, wire(2, 0, 9, 9, 9)},
	} {
		p := proxy.New()
		for side, b := range c.before {
			if back, on := p.Feed(side, b...); len(back) != 0 || !bytes.Equal(on, b) {
				t.Error(i, back, on)
			}
		}
		back, on := p.Feed(c.side, c.bad...)
		expectFault(t, p, back, on, api.Options{}, state)
	}
	for side := range 2 {
		p := proxy.New()
		if back, on := p.Feed(side, slices.Concat(x, keep, keep)...); len(back) != 0 || !bytes.Equal(on, slices.Concat(x, keep, keep)) || p.Count(side) != 3 || p.Count(1-side) != 0 || p.Ready() {
			t.Error(side, back, on)
		}
	}
	p := ready(t, api.Options{}, api.Options{})
	for side := range 2 {
		all := slices.Concat(keep, empty, refresh)
		if back, on := p.Feed(side, all...); len(back) != 0 || !bytes.Equal(on, all) || p.Count(side) != 4 || p.Closed() {
			t.Error(side, back, on)
		}
	}
}

func TestNotification(t *testing.T) { // P25.1 and P25.2
	n := wire(3, 6, 2, 1)
	for i, p := range []*proxy.Proxy{proxy.New(), ready(t, api.Options{}, api.Options{})} {
		before := p.Count(1)
		back, on := p.Feed(1, slices.Concat(n, keep, n)...)
		if len(back) != 0 || !bytes.Equal(on, n) || !p.Closed() || p.Ready() != (i == 1) || p.Count(1) != before+1 || !finding.Same(p.Fault(), api.Verdict{}) {
			t.Error(i, back, on)
		}
		if back, on := p.Feed(0, keep...); len(back) != 0 || len(on) != 0 {
			t.Error(i, back, on)
		}
	}
}

func TestVerdicts(t *testing.T) { // P25.1
	none := api.Options{}
	p := proxy.New()
	back, on := p.Feed(1, 255, 7)
	expectFault(t, p, back, on, none, api.Verdict{Kind: api.Notify, Code: 1, Sub: 1, At: 1})
	p = proxy.New()
	back, on = p.Feed(0, wire(9)...)
	expectFault(t, p, back, on, none, api.Verdict{Kind: api.Notify, Code: 1, Sub: 3, Data: []byte{9}, At: 18})
	p = proxy.New()
	back, on = p.Feed(0, wire(1, 4, 0, 0, 0, 0, 0, 0, 0, 1, 0)...)
	expectFault(t, p, back, on, none, api.Verdict{Kind: api.Notify, Code: 2, Sub: 2, At: 20})
	p = ready(t, none, none)
	back, on = p.Feed(0, slices.Concat(wire(2, 0, 0, 0, 0, 33), keep)...)
	expectFault(t, p, back, on, none, api.Verdict{Kind: api.Notify, Code: 3, Sub: 10, At: 23})
	if p.Count(0) != 1 || p.Count(1) != 1 {
		t.Error("a message that fails is counted")
	}
	p = ready(t, none, none)
	back, on = p.Feed(0, wire(2, 0, 0, 0, 0, 8, 10, 8, 10)...)
	if len(back) != 0 || !bytes.Equal(on, wire(2, 0, 2, 8, 10, 0, 0)) || p.Closed() || p.Count(0) != 2 {
		t.Error("routes are withdrawn", back, on)
	}
	if back, on := p.Feed(1, wire(2, 0, 0, 0, 4, 64, 1, 1, 9)...); len(back) != 0 || len(on) != 0 || p.Closed() || p.Count(1) != 2 {
		t.Error("nothing takes the place", back, on)
	}
	if _, on := p.Feed(1, wire(2, 0, 0, 0, 9, 64, 6, 1, 0, 80, 1, 0, 1, 0)...); !bytes.Equal(on, wire(2, 0, 0, 0, 4, 64, 1, 1, 0)) {
		t.Error("the canonical form takes the place", on)
	}
}

func TestOptions(t *testing.T) { // P25.1 and P25.2
	p := proxy.New()
	p.Feed(0, openWire(t, everything, 70000)...)
	if p.Options(0) != (api.Options{}) || p.Options(1) != (api.Options{}) {
		t.Error("options before the proxy is ready")
	}
	p.Feed(1, openWire(t, everything, 2)...)
	if p.Options(0) != everything || p.Options(1) != everything {
		t.Error(p.Options(0), p.Options(1))
	}
	// The side 0 sends path identifiers, and the side 1 receives them.
	p = proxy.New()
	p.Feed(0, wire(1, 4, 0, 1, 0, 0, 0, 0, 0, 1, 8, 2, 6, 69, 4, 0, 1, 1, 2)...)
	p.Feed(1, wire(1, 4, 0, 2, 0, 0, 0, 0, 0, 1, 8, 2, 6, 69, 4, 0, 1, 1, 1)...)
	if option.Text(p.Options(0)) != "add4" || option.Text(p.Options(1)) != "-" {
		t.Error(p.Options(0), p.Options(1))
	}
	with, without := wire(2, 0, 6, 0, 0, 0, 5, 8, 10, 0, 0), wire(2, 0, 2, 8, 10, 0, 0)
	if _, on := p.Feed(0, with...); !bytes.Equal(on, with) {
		t.Error(on)
	}
	if _, on := p.Feed(1, without...); !bytes.Equal(on, without) {
		t.Error(on)
	}
}

func TestOptionsAreSetAtOnce(t *testing.T) { // P25.1
	long := wire(2, slices.Concat([]byte{0, 0, 0x10, 4, 240, 99, 0x10, 0}, make([]byte, 4096))...)
	p := proxy.New()
	p.Feed(0, openWire(t, everything, 1)...)
	p.Feed(0, long[:18]...)
	x := openWire(t, everything, 2)
	if back, on := p.Feed(1, slices.Concat(x, long)...); len(back) != 0 || !bytes.Equal(on, slices.Concat(x, long)) {
		t.Error("the options are set for the bytes behind the OPEN")
	}
	if back, on := p.Feed(0, long[18:]...); len(back) != 0 || !bytes.Equal(on, long) {
		t.Error("the options are set for the framer of the other side")
	}
	p = ready(t, api.Options{}, everything)
	back, on := p.Feed(1, long...)
	expectFault(t, p, back, on, api.Options{}, api.Verdict{Kind: api.Notify, Code: 1, Sub: 2, Data: long[16:18], At: 16})
}

func TestReplyHasRoom(t *testing.T) { // P25.1
	data := slices.Concat([]byte{80, 99, 0x13, 0x88}, make([]byte, 5000))
	p := ready(t, everything, everything)
	back, on := p.Feed(1, wire(2, slices.Concat([]byte{0, 0, 0x13, 0x8c}, data)...)...)
	expectFault(t, p, back, on, everything, api.Verdict{Kind: api.Notify, Code: 3, Sub: 2, Data: data, At: 23})
	if len(back) != 21+5004 {
		t.Error(len(back))
	}
	data = slices.Concat([]byte{80, 99, 0x0f, 0xe5}, make([]byte, 4069))
	p = ready(t, api.Options{}, api.Options{})
	back, on = p.Feed(1, wire(2, slices.Concat([]byte{0, 0, 0x0f, 0xe9}, data)...)...)
	expectFault(t, p, back, on, api.Options{}, api.Verdict{Kind: api.Notify, Code: 3, Sub: 2, Data: data, At: 23})
}

func TestOtherSidesAndNil(t *testing.T) { // P25.2
	var none *proxy.Proxy
	p := proxy.New()
	for _, side := range []int{-1, 2, 3, math.MinInt, math.MaxInt} {
		if back, on := p.Feed(side, 1, 2, 3); len(back) != 0 || len(on) != 0 || p.Closed() || p.Options(side) != (api.Options{}) || p.Count(side) != 0 {
			t.Error(side)
		}
	}
	for _, side := range []int{0, 1, -1, 2} {
		if back, on := none.Feed(side, keep...); len(back) != 0 || len(on) != 0 || none.Options(side) != (api.Options{}) || none.Count(side) != 0 {
			t.Error(side)
		}
	}
	if none.Ready() || !none.Closed() || !finding.Same(none.Fault(), api.Verdict{}) {
		t.Error("a nil proxy")
	}
	p.Feed(0, wire(9)...)
	v := p.Fault()
	if v.Data[0] = 1; p.Fault().Data[0] != 9 {
		t.Error("Fault does not copy")
	}
}

func TestRun(t *testing.T) { // P25.3
	x, y := openWire(t, everything, 1), openWire(t, everything, 2)
	a, b := proxy.Run(proxy.Chunk{Side: 0, B: x}, proxy.Chunk{Side: 7, B: keep}, proxy.Chunk{Side: 1, B: slices.Concat(y, keep)}, proxy.Chunk{Side: 0, B: slices.Concat(keep, []byte{1})}, proxy.Chunk{Side: 1, B: keep})
	if !bytes.Equal(a, slices.Concat(y, keep, noticeWire(t, everything, api.Verdict{Kind: api.Notify, Code: 1, Sub: 1}))) || !bytes.Equal(b, slices.Concat(x, keep)) {
		t.Error(a, b)
	}
	if a, b := proxy.Run(); len(a) != 0 || len(b) != 0 {
		t.Error(a, b)
	}
}

// talk returns chunks of a session in which something may be wrong.
func talk(t *testing.T, rng *rand.Rand) []proxy.Chunk {
	all := []api.Options{{}, everything, {AS4: true, MP4: true}, {MP4: true, MP6: true, Add4: true}, {Extended: true, MP6: true, Add6: true}}
	messages := [][]byte{
		keep, empty, wire(5, 0, 2, 0, 1), wire(2, 0, 0, 0, 0, 8, 10, 8, 10), wire(2, 0, 0, 0, 14, 64, 1, 1, 0, 64, 2, 0, 64, 3, 4, 0, 0, 0, 1, 8, 10),
		wire(2, 0, 0, 0, 9, 64, 6, 1, 0, 80, 1, 0, 1, 0), wire(2, 0, 2, 8, 10, 0, 6, 128, 14, 3, 0, 2, 1), wire(2, 0, 0, 0, 7, 128, 15, 4, 0, 2, 1, 0), wire(2, 0, 6, 0, 0, 0, 5, 8, 10, 0, 0),
		wire(2, 0, 0, 0, 4, 64, 99, 1, 5), wire(3, 6, 2), wire(2, 0, 0, 0, 0, 33),
	}
	l := []proxy.Chunk{{Side: 0, B: openWire(t, all[rng.Intn(len(all))], 1)}, {Side: 1, B: openWire(t, all[rng.Intn(len(all))], 2)}}
	for range rng.Intn(12) {
		b := slices.Clone(messages[min(rng.Intn(len(messages)), rng.Intn(len(messages)))])
		if rng.Intn(9) == 0 {
			b[rng.Intn(len(b))] = byte(rng.Intn(256))
		}
		l = append(l, proxy.Chunk{Side: rng.Intn(2), B: b})
	}
	if rng.Intn(6) == 0 {
		i, j := rng.Intn(len(l)), rng.Intn(len(l))
		l[i], l[j] = l[j], l[i]
	}
	return l
}

func TestDivisionAndExchange(t *testing.T) { // P25.4
	rng := rand.New(rand.NewSource(10))
	for range 2000 {
		l := talk(t, rng)
		a, b := proxy.Run(l...)
		var pieces, exchanged []proxy.Chunk
		for _, c := range l {
			cut := rng.Intn(len(c.B) + 1)
			pieces = append(pieces, proxy.Chunk{Side: c.Side, B: c.B[:cut]}, proxy.Chunk{Side: c.Side, B: c.B[cut:]})
			exchanged = append(exchanged, proxy.Chunk{Side: 1 - c.Side, B: c.B})
		}
		if a2, b2 := proxy.Run(pieces...); !bytes.Equal(a, a2) || !bytes.Equal(b, b2) {
			t.Fatal("the division matters", l)
		}
		if b2, a2 := proxy.Run(exchanged...); !bytes.Equal(a, a2) || !bytes.Equal(b, b2) {
			t.Fatal("the exchange matters", l)
		}
	}
}

func TestWhatIsWritten(t *testing.T) { // P25.4
	rng := rand.New(rand.NewSource(11))
	closed, open := 0, 0
	for range 2000 {
		p := proxy.New()
		notices := 0
		for _, c := range talk(t, rng) {
			for _, x := range c.B {
				before := [2]api.Options{p.Options(0), p.Options(1)}
				back, on := p.Feed(c.Side, x)
				for to, b := range map[int][]byte{c.Side: back, 1 - c.Side: on} {
					o := before[1-to]
					for _, e := range frame.Split(o, b) {
						m, v := message.Parse(o, e.Frame)
						if v.Kind != api.Accept || notices > 0 {
							t.Fatal(b, v)
						}
						if m.Kind == api.Notice {
							notices++
						}
					}
				}
			}
		}
		if p.Closed() != (notices == 1) || notices > 1 {
			t.Fatal(notices)
		}
		if p.Closed() {
			closed++
		} else {
			open++
		}
	}
	if closed == 0 || open == 0 {
		t.Error(closed, open)
	}
}

func TestSecondProxy(t *testing.T) { // P25.5
	rng := rand.New(rand.NewSource(12))
	for range 2000 {
		first, second := proxy.New(), proxy.New()
		for _, c := range talk(t, rng) {
			back, on := first.Feed(c.Side, c.B...)
			back1, on1 := second.Feed(c.Side, on...)
			on2, back2 := second.Feed(1-c.Side, back...)
			if !bytes.Equal(slices.Concat(on1, on2), on) || !bytes.Equal(slices.Concat(back1, back2), back) {
				t.Fatal(c, back, on)
			}
		}
		if first.Ready() != second.Ready() || first.Closed() != second.Closed() || first.Options(0) != second.Options(0) || first.Options(1) != second.Options(1) {
			t.Fatal("the second proxy is in another state")
		}
	}
}

func TestProxiesAreIndependent(t *testing.T) {
	p, q := proxy.New(), proxy.New()
	p.Feed(0, 1)
	if q.Closed() || !p.Closed() || q.Fault().Kind != api.Accept {
		t.Error("proxies depend on each other")
	}
}

func TestNotificationBeforeOpen(t *testing.T) { // P25.1
	p := proxy.New()
	p.Feed(0, openWire(t, everything, 1)...)
	if back, on := p.Feed(1, wire(3, 2, 6)...); len(back) != 0 || !bytes.Equal(on, wire(3, 2, 6)) || !p.Closed() {
		t.Error(back, on)
	}
	n, _ := notice.Parse([]byte{2, 6})
	if notice.Text(n) != "open/hold 2/6" {
		t.Error(n)
	}
}
