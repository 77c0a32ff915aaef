package script_test

import (
	"bytes"
	"slices"
	"strings"
	"testing"

	"peerage/api"
	"peerage/message"
	"peerage/open"
	"peerage/proxy"
	"peerage/script"
)

// wire returns the bytes of a message, right or wrong.
func wire(kind int, body ...byte) []byte {
	n := 19 + len(body)
	return slices.Concat(bytes.Repeat([]byte{255}, 16), []byte{byte(n >> 8), byte(n), byte(kind)}, body)
}

func openWire(t *testing.T, o api.Options, as uint32) []byte {
	t.Helper()
	b, ok := message.Bytes(api.Options{}, message.Message{Kind: api.Open, Open: open.Make(o, as, 90, 1)})
	if !ok {
		t.Fatal(o, as)
	}
	return b
}

// step is a line with its output.
type step struct {
	line, want string
}

func play(t *testing.T, steps ...step) {
	t.Helper()
	s := script.New()
	var lines, outputs []string
	for i, x := range steps {
		if got, code := s.Do(x.line); got != x.want || code != api.OK {
			t.Errorf("%d %q %q %v", i, x.line, got, code)
		}
		lines = append(lines, x.line)
		outputs = append(outputs, x.want)
	}
	text := strings.Join(lines, "\n")
	for _, end := range []string{"", "\n", "\n\n"} {
		if got := script.Run(text + end); got != strings.Join(outputs, "") {
			t.Errorf("%q", got)
		}
	}
}

func TestSession(t *testing.T) { // P26.1 and P26.2
	o := api.Options{AS4: true, MP6: true}
	x, y, keep := script.Hex(openWire(t, o, 1)), script.Hex(openWire(t, api.Options{AS4: true, MP4: true}, 2)), script.Hex(wire(4))
	bad := script.Hex(wire(2, 0, 0, 0, 0, 33))
	play(t,
		step{"state", "waiting, -, -\n"}, step{"count", "0 0\n"}, step{"fault", "accept\n"}, step{"", ""},
		step{"a " + x, "to b " + x + "\n"}, step{"state", "waiting, -, -\n"}, step{"count", "1 0\n"},
		step{"a " + keep[:20], ""}, step{"a " + keep[20:], "to b " + keep + "\n"},
		step{"b " + y + keep, "to a " + y + keep + "\n"}, step{"state", "ready, as4, as4\n"}, step{"count", "2 2\n"},
		step{"read a " + keep, "accept: keepalive\n"}, step{"read b 00", "notify 1 1 at 0: \n"},
		step{"a " + keep + bad + keep, "to b " + keep + "\nto a " + script.Hex(wire(3, 3, 10)) + "\n"},
		step{"state", "closed, as4, as4\n"}, step{"fault", "notify 3 10 at 23\n"}, step{"count", "3 2\n"}, step{"a " + keep, ""}, step{"b 00", ""},
		step{"new", ""}, step{"state", "waiting, -, -\n"}, step{"count", "0 0\n"}, step{"fault", "accept\n"},
		step{"b " + keep, "to b " + script.Hex(wire(3, 5, 0)) + "\n"}, step{"fault", "notify 5 0 at 0\n"}, step{"state", "closed, -, -\n"},
	)
}

func TestRead(t *testing.T) { // P26.1
	// The side a sends path identifiers, and the side b receives them.
	x := script.Hex(wire(1, 4, 0, 1, 0, 90, 0, 0, 0, 1, 8, 2, 6, 69, 4, 0, 1, 1, 2))
	y := script.Hex(wire(1, 4, 0, 2, 0, 90, 0, 0, 0, 1, 8, 2, 6, 69, 4, 0, 1, 1, 1))
	with, without := script.Hex(wire(2, 0, 6, 0, 0, 0, 5, 8, 10, 0, 0)), script.Hex(wire(2, 0, 2, 8, 10, 0, 0))
	lacking, dropped := script.Hex(wire(2, 0, 0, 0, 0, 8, 10)), script.Hex(wire(2, 0, 0, 0, 4, 64, 6, 1, 0))
	play(t,
		step{"read a " + without, "accept: update withdraw 10.0.0.0/8\n"}, step{"read b " + without, "accept: update withdraw 10.0.0.0/8\n"},
		step{"read b " + lacking, "withdraw at 21: \n"}, step{"read b " + dropped, "discard at 23: update\n"}, step{"read a " + x, "accept: open as 1 hold 90 id 0.0.0.1\n"},
		step{"a " + x, "to b " + x + "\n"}, step{"b " + y, "to a " + y + "\n"}, step{"state", "ready, add4, -\n"},
		step{"read a " + with, "accept: update withdraw 10.0.0.0/8#5\n"}, step{"read b " + without, "accept: update withdraw 10.0.0.0/8\n"}, step{"read a " + without, "notify 3 10 at 21: \n"},
		step{"count", "1 1\n"}, step{"fault", "accept\n"}, step{"state", "ready, add4, -\n"},
	)
}

func TestErrors(t *testing.T) { // P26.1
	s := script.New()
	long := strings.Repeat("00", 65535)
	for _, c := range []struct {
		line string
		want api.Code
	}{
		{" ", api.ErrKind}, {"  ", api.ErrKind}, {"x", api.ErrKind}, {"A 00", api.ErrKind}, {" state", api.ErrKind}, {"State", api.ErrKind}, {"state,", api.ErrKind}, {"c 00", api.ErrKind}, {"state\t", api.ErrKind}, {"\x00", api.ErrKind}, {"x " + long + "00", api.ErrKind},
		{"state ", api.ErrSyntax}, {"state x", api.ErrSyntax}, {"count 1", api.ErrSyntax}, {"fault ", api.ErrSyntax}, {"new a", api.ErrSyntax},
		{"a", api.ErrSyntax}, {"a ", api.ErrSyntax}, {"a 0", api.ErrSyntax}, {"a 0x", api.ErrSyntax}, {"a FF", api.ErrSyntax}, {"a 00 00", api.ErrSyntax}, {"a  00", api.ErrSyntax}, {"a 00 ", api.ErrSyntax}, {"b 000", api.ErrSyntax},
		{"read", api.ErrSyntax}, {"read a", api.ErrSyntax}, {"read a ", api.ErrSyntax}, {"read c 00", api.ErrSyntax}, {"read 00 a", api.ErrSyntax}, {"read A 00", api.ErrSyntax}, {"read a 00 00", api.ErrSyntax}, {"read a 0g", api.ErrSyntax}, {"read  00", api.ErrSyntax},
		{"a " + long + "0", api.ErrSyntax}, {"a " + long + "0g", api.ErrSyntax}, {"read c " + long + "00", api.ErrSyntax}, {"a " + long + "00 ", api.ErrSyntax},
		{"a " + long + "00", api.ErrLong}, {"b " + long + "0000", api.ErrLong}, {"read b " + long + "00", api.ErrLong},
	} {
		if out, code := s.Do(c.line); out != "" || code != c.want {
			t.Errorf("%.20q %q %v", c.line, out, code)
		}
		if got := script.Run(c.line); got != c.want.Error()+"\n" {
			t.Errorf("%.20q %q", c.line, got)
		}
	}
	if out, code := s.Do("state"); out != "waiting, -, -\n" || code != api.OK {
		t.Error("a failed command has an effect", out)
	}
	if out, code := s.Do("read a " + long); out != "notify 1 1 at 0: \n" || code != api.OK {
		t.Errorf("%q", out)
	}
	var none *script.Script
	for _, line := range []string{"", "state", "x", "a 0"} {
		if out, code := none.Do(line); out != "" || code != api.ErrNil {
			t.Error(line, out, code)
		}
	}
}

func TestRun(t *testing.T) { // P26.2
	for _, c := range []struct{ text, want string }{
		{"", ""}, {"\n", ""}, {"\n\n\n", ""}, {"count", "0 0\n"}, {"count\n", "0 0\n"}, {"count\n\ncount", "0 0\n0 0\n"}, {"x\ncount\ncount \na 0\n", "error 5\n0 0\nerror 3\nerror 3\n"}, {"count\r\n", "error 5\n"},
		{"a 00\ncount\nstate\nfault\nnew\nstate\n", "to a " + script.Hex(wire(3, 1, 1)) + "\n0 0\nclosed, -, -\nnotify 1 1 at 0\nwaiting, -, -\n"},
	} {
		if got := script.Run(c.text); got != c.want {
			t.Errorf("%q %q", c.text, got)
		}
	}
}

func TestHexAndBytes(t *testing.T) { // P26.3 and P26.4
	for _, c := range []struct {
		b    []byte
		want string
	}{{nil, ""}, {[]byte{0}, "00"}, {[]byte{1, 0xab, 255}, "01abff"}} {
		if got := script.Hex(c.b); got != c.want {
			t.Error(c, got)
		}
	}
	for _, s := range []string{"", "0", "000", "0g", "g0", "AB", "aB", " 00", "00 ", "0 0", "é", "0é0", "\xff\xff", "0\xff", "-1", "+1", "０", "0x00", "\x000"} {
		if b, ok := script.Bytes(s); ok || len(b) != 0 {
			t.Errorf("%q %v", s, b)
		}
	}
	var all []byte
	for i := range 256 {
		all = append(all, byte(i))
		if got, ok := script.Bytes(script.Hex(all)); !ok || !bytes.Equal(got, all) {
			t.Error(i, got)
		}
	}
}

func TestOutputIsThatOfTheProxy(t *testing.T) { // P26.4
	x, y := openWire(t, api.Options{Extended: true}, 1), openWire(t, api.Options{Extended: true}, 2)
	chunks := []proxy.Chunk{{Side: 0, B: x}, {Side: 1, B: y[:30]}, {Side: 1, B: y[30:]}, {Side: 0, B: wire(4)}, {Side: 1, B: slices.Concat(wire(4), wire(2, 0, 0, 0, 0, 8, 10), wire(2, 9))}, {Side: 0, B: wire(4)}}
	var text string
	for _, c := range chunks {
		text += []string{"a ", "b "}[c.Side] + script.Hex(c.B) + "\n"
	}
	got := map[string][]byte{}
	for _, line := range strings.Split(strings.TrimSuffix(script.Run(text), "\n"), "\n") {
		words := strings.Split(line, " ")
		b, ok := script.Bytes(words[2])
		if len(words) != 3 || words[0] != "to" || !ok {
			t.Fatal(line)
		}
		got[words[1]] = append(got[words[1]], b...)
	}
	a, b := proxy.Run(chunks...)
	if !bytes.Equal(got["a"], a) || !bytes.Equal(got["b"], b) || len(a) == 0 || len(b) == 0 {
		t.Error(got, a, b)
	}
}

func TestScriptsAreIndependent(t *testing.T) {
	s, u := script.New(), script.New()
	s.Do("a 00")
	if out, _ := u.Do("state"); out != "waiting, -, -\n" {
		t.Error(out)
	}
}
