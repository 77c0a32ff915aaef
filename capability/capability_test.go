package capability_test

import (
	"bytes"
	"math"
	"slices"
	"testing"

	"peerage/api"
	"peerage/capability"
)

type caps = []capability.Cap

func cp(code int, data ...byte) capability.Cap { return capability.Cap{Code: code, Data: data} }

func TestValidAndBytes(t *testing.T) { // P16.1
	long := make([]byte, 255)
	for i, c := range []struct {
		l    caps
		ok   bool
		want []byte
	}{
		{nil, true, nil}, {caps{cp(2)}, true, []byte{2, 0}}, {caps{cp(0, 1), cp(255, 2, 3), cp(0)}, true, []byte{0, 1, 1, 255, 2, 2, 3, 0, 0}},
		{caps{cp(7, long...)}, true, append([]byte{7, 255}, long...)}, {caps{cp(2), cp(7, make([]byte, 256)...)}, false, nil},
		{caps{cp(-1)}, false, nil}, {caps{cp(256)}, false, nil}, {caps{cp(2), cp(math.MinInt)}, false, nil}, {caps{cp(math.MaxInt)}, false, nil},
	} {
		b, ok := capability.Bytes(c.l...)
		if ok != c.ok || !bytes.Equal(b, c.want) || capability.Valid(c.l...) != ok {
			t.Error(i, b, ok)
		}
	}
}

func TestRead(t *testing.T) { // P16.1
	for i, c := range []struct {
		b    []byte
		want caps
	}{
		{nil, nil}, {[]byte{2, 0}, caps{cp(2)}}, {[]byte{1, 4, 0, 1, 0, 1, 2, 0, 2, 0}, caps{cp(1, 0, 1, 0, 1), cp(2), cp(2)}}, {[]byte{255, 1, 9}, caps{cp(255, 9)}},
	} {
		if l, ok := capability.Read(c.b); !ok || !capability.Same(l, c.want) {
			t.Error(i, l, ok)
		}
	}
	for _, b := range [][]byte{{0}, {2}, {2, 1}, {2, 2, 0}, {2, 0, 1}, {2, 0, 1, 4, 0, 1, 0}, {2, 255}} {
		if l, ok := capability.Read(b); ok || len(l) != 0 {
			t.Error(b, l)
		}
	}
	l, _ := capability.Read([]byte{1, 1, 5, 2, 1, 6})
	if l[0].Data = append(l[0].Data, 99, 99, 99); l[1].Data[0] != 6 {
		t.Error("Data share memory")
	}
}

func TestOf(t *testing.T) { // P16.2
	for i, c := range []struct {
		o    api.Options
		want caps
	}{
		{api.Options{}, caps{cp(2)}},
		{api.Options{MP4: true}, caps{cp(1, 0, 1, 0, 1), cp(2)}},
		{api.Options{MP6: true, Extended: true}, caps{cp(1, 0, 2, 0, 1), cp(2), cp(6)}},
		{api.Options{AS4: true}, caps{cp(2), cp(65, 1, 2, 3, 4)}},
		{api.Options{Add4: true}, caps{cp(2), cp(69, 0, 1, 1, 3)}},
		{api.Options{Add6: true}, caps{cp(2), cp(69, 0, 2, 1, 3)}},
		{api.Options{AS4: true, Extended: true, MP4: true, MP6: true, Add4: true, Add6: true},
			caps{cp(1, 0, 1, 0, 1), cp(1, 0, 2, 0, 1), cp(2), cp(6), cp(65, 1, 2, 3, 4), cp(69, 0, 1, 1, 3, 0, 2, 1, 3)}},
	} {
		if got := capability.Of(c.o, 0x01020304); !capability.Same(got, c.want) {
			t.Error(i, got)
		}
	}
}

func TestSystem(t *testing.T) { // P16.3
	for i, c := range []struct {
		l    caps
		want uint32
		ok   bool
	}{
		{nil, 0, false}, {caps{cp(65)}, 0, false}, {caps{cp(65, 1, 2, 3)}, 0, false}, {caps{cp(65, 1, 2, 3, 4, 5)}, 0, false}, {caps{cp(64, 1, 2, 3, 4)}, 0, false},
		{caps{cp(65, 1, 2, 3, 4)}, 0x01020304, true}, {caps{cp(65, 0, 0, 0, 0)}, 0, true}, {caps{cp(65, 0, 0, 0, 0), cp(65, 0, 0, 0, 1)}, 0, true},
		{caps{cp(2), cp(65, 9), cp(65, 0, 0, 0, 7), cp(65, 0, 0, 0, 8)}, 7, true},
	} {
		if as, ok := capability.System(c.l...); as != c.want || ok != c.ok {
			t.Error(i, as, ok)
		}
	}
}

func TestHas(t *testing.T) { // P16.3
	l := caps{cp(2), cp(6, 1), cp(-3, 1, 2), cp(6, 1, 2, 3)}
	for _, c := range []struct {
		code, n int
		want    bool
	}{{2, 0, true}, {2, 1, false}, {6, 0, false}, {6, 1, true}, {6, 3, true}, {6, 2, false}, {-3, 2, true}, {3, 0, false}, {2, -1, false}, {math.MaxInt, math.MinInt, false}} {
		if capability.Has(c.code, c.n, l...) != c.want {
			t.Error(c)
		}
	}
	if capability.Has(2, 0) {
		t.Error("none has nothing")
	}
}

func TestFamily(t *testing.T) { // P16.3
	for i, c := range []struct {
		l         caps
		four, six bool
	}{
		{nil, false, false}, {caps{cp(1, 0, 1, 0, 1)}, true, false}, {caps{cp(1, 0, 2, 99, 1)}, false, true}, {caps{cp(1, 0, 2, 0, 1), cp(1, 0, 1, 255, 1)}, true, true},
		{caps{cp(1, 0, 1, 0, 2)}, false, false}, {caps{cp(1, 1, 1, 0, 1)}, false, false}, {caps{cp(1, 0, 1, 1)}, false, false}, {caps{cp(1, 0, 1, 0, 1, 0, 2, 0, 1)}, false, false}, {caps{cp(1)}, false, false},
		{caps{cp(2, 0, 1, 0, 1)}, false, false}, {caps{cp(1, 0, 3, 0, 1), cp(1, 0, 1, 0, 1), cp(1, 0, 9, 0, 1)}, true, false}, {caps{cp(69, 0, 1, 1, 1)}, false, false},
	} {
		if capability.Family(1, c.l...) != c.four || capability.Family(2, c.l...) != c.six {
			t.Error(i, c)
		}
		for _, fam := range []int{0, 3, 9, -1, math.MinInt, math.MaxInt} {
			if capability.Family(fam, c.l...) {
				t.Error(i, fam)
			}
		}
	}
}

func TestMode(t *testing.T) { // P16.3
	for i, c := range []struct {
		l         caps
		four, six int
	}{
		{nil, 0, 0}, {caps{cp(69)}, 0, 0}, {caps{cp(69, 0, 1, 1, 1)}, 1, 0}, {caps{cp(69, 0, 2, 1, 2)}, 0, 2}, {caps{cp(69, 0, 1, 1, 3, 0, 2, 1, 1)}, 3, 1},
		{caps{cp(69, 0, 1, 1, 1, 0, 1, 1, 2)}, 2, 0}, {caps{cp(69, 0, 1, 1, 1, 0, 2, 1, 2), cp(2), cp(69, 0, 1, 1, 3)}, 3, 2},
		{caps{cp(69, 0, 1, 1, 0)}, 0, 0}, {caps{cp(69, 0, 1, 1, 4)}, 0, 0}, {caps{cp(69, 0, 1, 1, 255)}, 0, 0}, {caps{cp(69, 0, 1, 1, 2, 0, 1, 1, 4)}, 2, 0}, {caps{cp(69, 0, 1, 1, 2), cp(69, 0, 1, 1, 0)}, 2, 0},
		{caps{cp(69, 0, 1, 2, 1)}, 0, 0}, {caps{cp(69, 1, 1, 1, 1)}, 0, 0}, {caps{cp(69, 0, 1, 1)}, 0, 0}, {caps{cp(69, 0, 1, 1, 1, 0)}, 0, 0}, {caps{cp(69, 0, 1, 1, 1), cp(69, 0, 1, 1, 2, 0)}, 1, 0},
		{caps{cp(1, 0, 1, 1, 1)}, 0, 0}, {caps{cp(69, 0, 9, 1, 1)}, 0, 0},
	} {
		if four, six := capability.Mode(1, c.l...), capability.Mode(2, c.l...); four != c.four || six != c.six {
			t.Error(i, c, four, six)
		}
		for _, fam := range []int{0, 3, 9, -1, math.MinInt, math.MaxInt} {
			if capability.Mode(fam, c.l...) != 0 {
				t.Error(i, fam)
			}
		}
	}
}

func TestSame(t *testing.T) { // P16.4
	lists := []caps{nil, {cp(1)}, {cp(2)}, {cp(1, 0)}, {cp(1, 1)}, {cp(1, 0, 0)}, {cp(1), cp(2)}, {cp(2), cp(1)}, {cp(-1)}}
	for i, a := range lists {
		for j, b := range lists {
			if capability.Same(a, b) != (i == j) {
				t.Error(a, b)
			}
		}
	}
	if !capability.Same(nil, caps{}) || !capability.Same(caps{{Code: 1}}, caps{{Code: 1, Data: []byte{}}}) {
		t.Error("empty Data are the same as none")
	}
}

func TestConsequences(t *testing.T) { // P16.5
	for i := 0; i < 64; i++ {
		o := api.Options{AS4: i&1 != 0, Extended: i&2 != 0, MP4: i&4 != 0, MP6: i&8 != 0, Add4: i&16 != 0, Add6: i&32 != 0}
		l := capability.Of(o, 70000)
		b, ok := capability.Bytes(l...)
		if got, ok2 := capability.Read(b); !ok || !ok2 || !capability.Same(got, l) {
			t.Error(o, got)
		}
		as, named := capability.System(l...)
		mode := map[bool]int{true: 3}
		if named != o.AS4 || named && as != 70000 || capability.Has(capability.Extended, 0, l...) != o.Extended || !capability.Has(capability.Refresh, 0, l...) ||
			capability.Family(1, l...) != o.MP4 || capability.Family(2, l...) != o.MP6 || capability.Mode(1, l...) != mode[o.Add4] || capability.Mode(2, l...) != mode[o.Add6] {
			t.Error(o, l)
		}
	}
	l := caps{cp(0, 1, 2), cp(255), cp(69, slices.Repeat([]byte{0, 1, 1, 3}, 60)...)}
	b, _ := capability.Bytes(l...)
	if got, ok := capability.Read(b); !ok || !capability.Same(got, l) {
		t.Error(got)
	}
}
