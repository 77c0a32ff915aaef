package segment_test

import (
	"bytes"
	"math"
	"reflect"
	"strings"
	"testing"

	"peerage/api"
	"peerage/segment"
)

func set(as ...uint32) api.Segment { return api.Segment{Kind: api.Set, AS: as} }
func seq(as ...uint32) api.Segment { return api.Segment{Kind: api.Sequence, AS: as} }

func path(l ...api.Segment) []api.Segment { return l }

// samples are valid for the width 4, and without wide numbers for the width 2.
func samples(top uint32) [][]api.Segment {
	long := make([]uint32, 255)
	for i := range long {
		long[i] = top - uint32(i)
	}
	return [][]api.Segment{
		nil, path(seq(1)), path(set(top)), path(seq(1, 2), set(3)), path(set(0, 0), set(0), seq(7)), path(seq(long...), set(long...), seq(5)),
	}
}

func TestValid(t *testing.T) { // P6.1
	for _, c := range []struct {
		width int
		l     []api.Segment
		want  bool
	}{
		{2, nil, true}, {4, nil, true}, {0, nil, false}, {1, nil, false}, {3, nil, false}, {-2, nil, false}, {8, nil, false}, {math.MaxInt, nil, false},
		{2, path(seq(65535)), true}, {2, path(seq(65536)), false}, {4, path(seq(math.MaxUint32)), true}, {2, path(seq(1), set(2, 70000)), false},
		{3, path(seq(1)), false}, {4, path(seq()), false}, {4, path(set()), false}, {2, path(seq(1), set()), false},
		{4, path(api.Segment{Kind: 0, AS: []uint32{1}}), false}, {4, path(api.Segment{Kind: 3, AS: []uint32{1}}), false},
		{4, path(seq(1), api.Segment{Kind: -1, AS: []uint32{1}}), false}, {4, path(api.Segment{Kind: 258, AS: []uint32{1}}), false},
		{2, path(seq(make([]uint32, 255)...)), true}, {2, path(seq(make([]uint32, 256)...)), false}, {4, path(set(make([]uint32, 511)...)), false},
	} {
		if segment.Valid(c.width, c.l...) != c.want {
			t.Error(c)
		}
		if b, ok := segment.Bytes(c.width, c.l...); ok != c.want || !ok && len(b) != 0 {
			t.Error(c, b, ok)
		}
	}
}

func TestBytes(t *testing.T) { // P6.1
	for _, c := range []struct {
		width int
		l     []api.Segment
		want  []byte
	}{
		{2, nil, nil},
		{2, path(seq(258)), []byte{2, 1, 1, 2}},
		{4, path(seq(258)), []byte{2, 1, 0, 0, 1, 2}},
		{2, path(set(1, 2), seq(65535)), []byte{1, 2, 0, 1, 0, 2, 2, 1, 255, 255}},
		{4, path(set(1<<24 + 2)), []byte{1, 1, 1, 0, 0, 2}},
	} {
		if b, ok := segment.Bytes(c.width, c.l...); !ok || !bytes.Equal(b, c.want) {
			t.Error(c, b, ok)
		}
	}
}

func TestRead(t *testing.T) { // P6.1
	for _, c := range []struct {
		width int
		b     []byte
	}{
		{0, nil}, {3, nil}, {-4, nil}, {1, []byte{2, 1, 1}},
		{2, []byte{2}}, {2, []byte{2, 0}}, {2, []byte{1, 0}}, {2, []byte{0, 1, 0, 1}}, {2, []byte{3, 1, 0, 1}}, {2, []byte{2, 1, 0}}, {2, []byte{2, 2, 0, 1}},
		{2, []byte{2, 1, 0, 1, 2}}, {2, []byte{2, 1, 0, 1, 0, 0}}, {4, []byte{2, 1, 0, 1}}, {4, []byte{2, 1, 0, 0, 0, 1, 2, 0}}, {4, []byte{2, 255, 0, 0, 0, 1}},
		{2, []byte{0, 0}}, {2, []byte{0}},
	} {
		if l, ok := segment.Read(c.width, c.b); ok || len(l) != 0 {
			t.Error(c, l)
		}
	}
	l, ok := segment.Read(2, []byte{2, 2, 0, 1, 255, 255, 1, 1, 0, 0})
	if !ok || !reflect.DeepEqual(l, path(seq(1, 65535), set(0))) {
		t.Error(l, ok)
	}
	l[0].AS = append(l[0].AS, 9)
	if l[1].AS[0] != 0 {
		t.Error("segments share memory")
	}
}

func TestLength(t *testing.T) { // P6.2
	for _, c := range []struct {
		l    []api.Segment
		want int
	}{
		{nil, 0}, {path(seq(1, 2), set(3)), 3}, {path(set(1, 2, 3)), 1}, {path(set(1, 2), set(3, 4), seq(5, 6, 7)), 5},
		{path(api.Segment{Kind: 3, AS: []uint32{1, 2}}, seq(1)), 1}, {path(api.Segment{Kind: -1, AS: []uint32{1, 2}}, api.Segment{AS: []uint32{1}}), 0},
	} {
		if n := segment.Length(c.l...); n != c.want {
			t.Error(c, n)
		}
	}
}

func TestNarrow(t *testing.T) { // P6.2
	l := path(seq(1, 65535, 65536), set(math.MaxUint32, 23456), api.Segment{Kind: 9, AS: []uint32{70000}})
	got := segment.Narrow(l...)
	if !segment.Same(got, path(seq(1, 65535, 23456), set(23456, 23456), api.Segment{Kind: 9, AS: []uint32{segment.Trans}})) {
		t.Error(got)
	}
	if l[0].AS[2] != 65536 || len(segment.Narrow()) != 0 {
		t.Error(l)
	}
	if got[0].AS[0] = 8; l[0].AS[0] != 1 {
		t.Error("the result shares memory with the argument")
	}
}

func TestText(t *testing.T) { // P6.3
	for _, c := range []struct {
		l    []api.Segment
		want string
	}{
		{nil, ""}, {path(seq(1, 2), set(3)), "[1 2] {3}"}, {path(set(0, 4294967295)), "{0 4294967295}"}, {path(seq(7), seq(8)), "[7] [8]"},
	} {
		if s := segment.Text(c.l...); s != c.want {
			t.Error(c, s)
		}
		if l, ok := segment.Parse(c.want); !ok || !segment.Same(l, c.l) {
			t.Error(c, l, ok)
		}
	}
	for _, l := range [][]api.Segment{path(seq()), path(seq(1), set()), path(api.Segment{Kind: 3, AS: []uint32{1}}), path(api.Segment{Kind: math.MinInt, AS: []uint32{1}}), path(seq(make([]uint32, 256)...))} {
		if s := segment.Text(l...); s != "" {
			t.Error(l, s)
		}
	}
}

func TestParseRejects(t *testing.T) { // P6.3
	for _, s := range []string{
		" ", "[]", "{}", "[ ]", "[1", "1]", "1", "[1}", "{1]", "[1] ", " [1]", "[1]  [2]", "[1][2]", "[1]{2}", "[1  2]", "[ 1]", "[1 ]", "[01]", "[+1]", "[-1]",
		"[4294967296]", "[a]", "[1,2]", "[[1]]", "[1] x", "[1]\n", "(1)", "[" + strings.Repeat("1 ", 255) + "1]",
	} {
		if l, ok := segment.Parse(s); ok || len(l) != 0 {
			t.Errorf("%q %v", s, l)
		}
	}
}

func TestSame(t *testing.T) { // P6.4
	lists := [][]api.Segment{nil, path(seq()), path(set()), path(seq(1)), path(set(1)), path(seq(2)), path(seq(1, 2)), path(seq(1), seq(2)), path(seq(2), seq(1)), path(seq(2, 1))}
	for i, a := range lists {
		for j, b := range lists {
			if segment.Same(a, b) != (i == j) {
				t.Error(a, b)
			}
		}
	}
	if !segment.Same(nil, []api.Segment{}) || !segment.Same(path(api.Segment{Kind: 1}), path(set([]uint32{}...))) {
		t.Error("empty lists are the same as none")
	}
}

func TestInverses(t *testing.T) { // P6.5
	for _, l := range samples(math.MaxUint32) {
		b, ok := segment.Bytes(4, l...)
		if got, ok2 := segment.Read(4, b); !ok || !ok2 || !segment.Same(got, l) {
			t.Error(l, got)
		}
		if got, ok := segment.Parse(segment.Text(l...)); !ok || !segment.Same(got, l) {
			t.Error(l, got)
		}
		narrow := segment.Narrow(l...)
		if !segment.Valid(2, narrow...) || segment.Length(narrow...) != segment.Length(l...) {
			t.Error(l, narrow)
		}
	}
	for _, l := range samples(65535) {
		b, ok := segment.Bytes(2, l...)
		if got, ok2 := segment.Read(2, b); !ok || !ok2 || !segment.Same(got, l) || !segment.Same(segment.Narrow(l...), l) {
			t.Error(l, got)
		}
	}
}
