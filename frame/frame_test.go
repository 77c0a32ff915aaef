package frame_test

import (
	"bytes"
	"math/rand"
	"slices"
	"testing"

	"peerage/api"
	"peerage/finding"
	"peerage/frame"
	"peerage/header"
)

var (
	plain    = api.Options{}
	extended = api.Options{Extended: true}
)

// wire returns the bytes of a message, right or wrong.
func wire(kind, n int) []byte {
	b := slices.Concat(bytes.Repeat([]byte{255}, 16), []byte{byte(n >> 8), byte(n), byte(kind)})
	for i := 19; i < n; i++ {
		b = append(b, byte(i))
	}
	return b
}

func same(a, b []frame.Event) bool {
	return slices.EqualFunc(a, b, func(x, y frame.Event) bool {
		return bytes.Equal(x.Frame, y.Frame) && finding.Same(x.Verdict, y.Verdict)
	})
}

func frames(l ...[]byte) []frame.Event {
	var out []frame.Event
	for _, b := range l {
		out = append(out, frame.Event{Frame: b})
	}
	return out
}

func failure(sub, at int, data ...byte) frame.Event {
	return frame.Event{Verdict: api.Verdict{Kind: api.Notify, Code: 1, Sub: sub, Data: data, At: at}}
}

func cat(parts ...[]byte) []byte { return slices.Concat(parts...) }

func TestFeedByteByByte(t *testing.T) { // P23.1
	f := frame.New(plain)
	for i, x := range wire(4, 19) {
		if f.Held() != i || f.Frames() != 0 {
			t.Error(i, f.Held())
		}
		events := f.Feed(x)
		if i < 18 && len(events) != 0 || i == 18 && !same(events, frames(wire(4, 19))) {
			t.Error(i, events)
		}
	}
	if f.Held() != 0 || f.Frames() != 1 || f.Closed() {
		t.Error(f.Held(), f.Frames())
	}
}

func TestSplit(t *testing.T) { // P23.1 and P23.3
	keep, update, notice := wire(4, 19), wire(2, 100), wire(3, 21)
	for i, c := range []struct {
		o    api.Options
		b    []byte
		want []frame.Event
	}{
		{plain, nil, nil},
		{plain, keep[:18], nil},
		{plain, cat(keep, update, notice, keep, update[:99]), frames(keep, update, notice, keep)},
		{plain, cat(keep, []byte{254}, keep), append(frames(keep), failure(1, 0))},
		{plain, cat(keep[:15], []byte{0}, keep), []frame.Event{failure(1, 15)}},
		{plain, cat(keep[:7], []byte{0}), []frame.Event{failure(1, 7)}},
		{plain, cat(keep[:15], []byte{0}), []frame.Event{failure(1, 15)}},
		{plain, cat(wire(4, 18), keep), []frame.Event{failure(2, 16, 0, 18)}},
		{plain, cat(update, wire(9, 19), keep), append(frames(update), failure(3, 18, 9))},
		{plain, wire(4, 20), []frame.Event{failure(2, 16, 0, 20)}},
		{plain, wire(2, 4097), []frame.Event{failure(2, 16, 16, 1)}},
		{plain, wire(2, 4096), frames(wire(2, 4096))},
		{extended, cat(wire(2, 4097), wire(3, 65535), keep), frames(wire(2, 4097), wire(3, 65535), keep)},
		{extended, wire(1, 4097), []frame.Event{failure(2, 16, 16, 1)}},
		{plain, cat(wire(1, 29), wire(5, 23)), frames(wire(1, 29), wire(5, 23))},
	} {
		if got := frame.Split(c.o, c.b); !same(got, c.want) {
			t.Error(i, got)
		}
	}
}

func TestErrorCloses(t *testing.T) { // P23.1 and P23.2
	f := frame.New(plain)
	f.Feed(255, 255)
	if got := f.Feed(7, 255, 7); !same(got, []frame.Event{failure(1, 2)}) {
		t.Error(got)
	}
	if !f.Closed() || f.Held() != 0 || f.Close() || f.Frames() != 0 {
		t.Error("not closed")
	}
	if got := f.Feed(wire(4, 19)...); len(got) != 0 || f.Held() != 0 || f.Frames() != 0 {
		t.Error("an event after the end", got)
	}
}

func TestSet(t *testing.T) { // P23.1
	long := wire(2, 5000)
	for at, want := range map[int]int{0: 1, 10: 1, 18: 1, 19: 0} {
		f := frame.New(plain)
		events := f.Feed(long[:at]...)
		f.Set(extended)
		events = append(events, f.Feed(long[at:]...)...)
		if want == 1 && !same(events, frames(long)) || want == 0 && !same(events, []frame.Event{failure(2, 16, 0x13, 0x88)}) {
			t.Error(at, len(events))
		}
	}
	f := frame.New(extended)
	f.Feed(long[:19]...)
	f.Set(plain)
	if got := f.Feed(long[19:]...); !same(got, frames(long)) {
		t.Error("the length of an accepted message changes")
	}
	if got := f.Feed(long...); !same(got, []frame.Event{failure(2, 16, 0x13, 0x88)}) {
		t.Error("the options of the next message do not change")
	}
}

func TestClose(t *testing.T) { // P23.2
	f := frame.New(plain)
	f.Feed(wire(4, 19)...)
	f.Feed(wire(2, 30)[:25]...)
	if f.Held() != 25 || f.Closed() || f.Frames() != 1 {
		t.Error(f.Held())
	}
	if !f.Close() || !f.Closed() || f.Held() != 0 || f.Frames() != 1 {
		t.Error("the first Close")
	}
	if f.Close() || !f.Closed() || len(f.Feed(wire(4, 19)...)) != 0 || f.Held() != 0 || f.Frames() != 1 {
		t.Error("the second Close")
	}
	f.Set(extended)
	if len(f.Feed(wire(4, 19)...)) != 0 {
		t.Error("Set opens a framer")
	}
}

func TestNilFramer(t *testing.T) { // P23.2
	var f *frame.Framer
	f.Set(extended)
	if len(f.Feed(wire(4, 19)...)) != 0 || f.Close() || !f.Closed() || f.Held() != 0 || f.Frames() != 0 {
		t.Error("a nil framer does something")
	}
}

func TestEventsShareNoMemory(t *testing.T) { // the rule on slices
	f := frame.New(plain)
	b := cat(wire(3, 25), wire(3, 25)[:22])
	first := f.Feed(b...)
	for i := range b {
		b[i] = 1
	}
	first[0].Frame = append(first[0].Frame, 9, 9, 9, 9)
	second := f.Feed(wire(3, 25)[22:]...)
	if !same(second, frames(wire(3, 25))) || !bytes.Equal(first[0].Frame[:25], wire(3, 25)) {
		t.Error(second)
	}
}

func TestDivisionDoesNotMatter(t *testing.T) { // P23.4
	rng := rand.New(rand.NewSource(7))
	for range 300 {
		var b []byte
		for range 1 + rng.Intn(6) {
			b = append(b, wire([]int{1, 2, 3, 4, 5}[rng.Intn(5)], []int{19, 23, 29, 60, 4096}[rng.Intn(5)])...)
		}
		if rng.Intn(3) == 0 {
			b[rng.Intn(len(b))] = byte(rng.Intn(256))
		}
		want := frame.Split(plain, b)
		f := frame.New(plain)
		var got []frame.Event
		for rest := b; len(rest) > 0; {
			n := min(1+rng.Intn(40), len(rest))
			got = append(got, f.Feed(rest[:n]...)...)
			rest = rest[n:]
			if f.Held() >= header.Limit(plain, api.Update) {
				t.Error(f.Held())
			}
		}
		if !same(got, want) {
			t.Fatal(got, want)
		}
		for i, e := range got {
			whole := len(e.Frame) > 0 && e.Verdict.Kind == api.Accept
			last := len(e.Frame) == 0 && e.Verdict.Kind == api.Notify && i == len(got)-1 && f.Closed()
			if !whole && !last {
				t.Fatal(i, e)
			}
		}
	}
}

func TestFramersAreIndependent(t *testing.T) {
	f, g := frame.New(plain), frame.New(plain)
	f.Feed(255, 255)
	g.Feed(7)
	if f.Held() != 2 || f.Closed() || !g.Closed() {
		t.Error(f.Held(), f.Closed(), g.Closed())
	}
}
