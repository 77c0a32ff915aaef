package notice_test

import (
	"bytes"
	"math"
	"testing"

	"peerage/api"
	"peerage/notice"
)

func of(code, sub int, data ...byte) notice.Notice {
	return notice.Notice{Code: code, Sub: sub, Data: data}
}

func TestValidAndBytes(t *testing.T) { // P18.1
	for i, c := range []struct {
		n    notice.Notice
		want []byte
	}{
		{of(0, 0), []byte{0, 0}}, {of(255, 255, 1, 2), []byte{255, 255, 1, 2}}, {of(3, 10, 1), []byte{3, 10, 1}}, {of(6, 2, make([]byte, 65514)...), append([]byte{6, 2}, make([]byte, 65514)...)},
		{of(-1, 0), nil}, {of(256, 0), nil}, {of(0, -1), nil}, {of(0, 256), nil}, {of(math.MinInt, 1), nil}, {of(1, math.MaxInt), nil}, {of(6, 2, make([]byte, 65515)...), nil},
	} {
		b, ok := notice.Bytes(c.n)
		if ok != (c.want != nil) || !bytes.Equal(b, c.want) || notice.Valid(c.n) != ok {
			t.Error(i, len(b), ok)
		}
	}
}

func TestParse(t *testing.T) { // P18.1
	for i, c := range []struct {
		b    []byte
		want notice.Notice
	}{
		{[]byte{0, 0}, of(0, 0)}, {[]byte{255, 254, 1, 2}, of(255, 254, 1, 2)}, {make([]byte, 65516), of(0, 0, make([]byte, 65514)...)},
	} {
		if n, ok := notice.Parse(c.b); !ok || !notice.Same(n, c.want) {
			t.Error(i, n.Code, n.Sub, ok)
		}
	}
	for _, b := range [][]byte{nil, {1}, make([]byte, 65517)} {
		if n, ok := notice.Parse(b); ok || !notice.Same(n, notice.Notice{}) {
			t.Error(len(b), n)
		}
	}
	b := []byte{1, 2, 3}
	n, _ := notice.Parse(b)
	if n.Data[0] = 9; b[2] != 3 {
		t.Error("Data share memory with the argument")
	}
}

func TestOf(t *testing.T) { // P18.2 and P18.5
	extended := api.Options{Extended: true}
	long := bytes.Repeat([]byte{7}, 70000)
	for i, c := range []struct {
		o    api.Options
		v    api.Verdict
		want notice.Notice
	}{
		{api.Options{}, api.Verdict{Kind: 4, Code: 3, Sub: 5, Data: []byte{1, 2}, At: 9}, of(3, 5, 1, 2)},
		{api.Options{}, api.Verdict{Kind: 4, Code: 5}, of(5, 0)},
		{api.Options{}, api.Verdict{Kind: 4, Code: 1, Data: long[:4075]}, of(1, 0, long[:4075]...)},
		{api.Options{}, api.Verdict{Kind: 4, Code: 1, Data: long[:4076]}, of(1, 0, long[:4075]...)},
		{api.Options{AS4: true, MP4: true}, api.Verdict{Kind: 4, Code: 1, Data: long}, of(1, 0, long[:4075]...)},
		{extended, api.Verdict{Kind: 4, Code: 6, Sub: 255, Data: long[:4076]}, of(6, 255, long[:4076]...)},
		{extended, api.Verdict{Kind: 4, Code: 1, Data: long}, of(1, 0, long[:65514]...)},
	} {
		n, ok := notice.Of(c.o, c.v)
		if !ok || !notice.Same(n, c.want) || !notice.Valid(n) {
			t.Error(i, len(n.Data), ok)
		}
	}
	for _, v := range []api.Verdict{{}, {Kind: 1}, {Kind: 2, At: 5}, {Kind: 3, Sub: 1}, {Kind: 4}, {Kind: 4, Code: 7}, {Kind: 4, Code: 1, Sub: 256}, {Kind: 4, Code: 1, At: -1}, {Kind: 5, Code: 1}} {
		if n, ok := notice.Of(extended, v); ok || !notice.Same(n, notice.Notice{}) {
			t.Error(v, n)
		}
	}
	data := []byte{1}
	n, _ := notice.Of(api.Options{}, api.Verdict{Kind: 4, Code: 1, Data: data})
	if n.Data[0] = 9; data[0] != 1 {
		t.Error("Data share memory with the argument")
	}
}

func TestName(t *testing.T) { // P18.3
	table := map[int][]string{
		1: {"header", "header/marker", "header/length", "header/type", "header", "header"},
		2: {"open", "open/version", "open/peer", "open/identifier", "open/parameter", "open", "open/hold", "open"},
		3: {"update", "update/attributes", "update/unrecognized", "update/missing", "update/flags", "update/size", "update/origin", "update", "update/nexthop", "update/optional", "update/network", "update/path", "update", "update"},
		4: {"timer", "timer", "timer"}, 5: {"state", "state", "state"}, 6: {"cease", "cease", "cease"},
		0: {"error", "error"}, 7: {"error", "error"}, -1: {"error"}, 255: {"error", "error"}, math.MinInt: {"error"}, math.MaxInt: {"error"},
	}
	for code, subs := range table {
		for sub, want := range subs {
			if got := notice.Name(code, sub); got != want {
				t.Error(code, sub, got)
			}
		}
		for _, sub := range []int{-1, 12, 99, 255, math.MinInt, math.MaxInt} {
			if got := notice.Name(code, sub); got != subs[0] {
				t.Error(code, sub, got)
			}
		}
	}
}

func TestText(t *testing.T) { // P18.3
	for _, c := range []struct {
		n    notice.Notice
		want string
	}{
		{of(3, 10, 1), "update/network 3/10 01"}, {of(6, 2), "cease 6/2"}, {of(0, 0), "error 0/0"}, {of(200, 255, 0xab, 0xcd), "error 200/255 abcd"}, {of(2, 5), "open 2/5"},
		{of(-1, 0), ""}, {of(1, 256), ""}, {of(1, 1, make([]byte, 65515)...), ""},
	} {
		if s := notice.Text(c.n); s != c.want {
			t.Error(c.n.Code, c.n.Sub, s)
		}
	}
}

func TestSame(t *testing.T) { // P18.4
	l := []notice.Notice{of(0, 0), of(1, 0), of(0, 1), of(0, 0, 0), of(0, 0, 1), of(0, 0, 0, 0), of(-1, 0)}
	for i, a := range l {
		for j, b := range l {
			if notice.Same(a, b) != (i == j) {
				t.Error(a, b)
			}
		}
	}
	if !notice.Same(notice.Notice{}, notice.Notice{Data: []byte{}}) {
		t.Error("empty Data are the same as none")
	}
}

func TestParseInvertsBytes(t *testing.T) { // P18.5
	for _, n := range []notice.Notice{of(0, 0), of(1, 2, 3), of(255, 255, make([]byte, 65514)...), of(3, 11, 0, 0)} {
		b, ok := notice.Bytes(n)
		if got, ok2 := notice.Parse(b); !ok || !ok2 || !notice.Same(got, n) {
			t.Error(n.Code, n.Sub)
		}
	}
}
