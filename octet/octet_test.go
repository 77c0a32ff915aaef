package octet_test

import (
	"bytes"
	"math"
	"testing"

	"peerage/octet"
)

func TestNewAtLeft(t *testing.T) { // P1.1
	r := octet.New([]byte{1, 2, 3})
	if r.At() != 0 || r.Left() != 3 {
		t.Error(r.At(), r.Left())
	}
	r.Take(2)
	if r.At() != 2 || r.Left() != 1 {
		t.Error(r.At(), r.Left())
	}
	empty := octet.New(nil)
	if empty == nil || empty.At() != 0 || empty.Left() != 0 {
		t.Error(empty)
	}
	var none *octet.Reader
	if none.At() != 0 || none.Left() != 0 {
		t.Error(none.At(), none.Left())
	}
}

func TestReaderKeepsItsBytes(t *testing.T) { // P1.1, and the rule on slices
	b := []byte{1, 2, 3, 4}
	r := octet.New(b)
	b[1] = 99
	got, _ := r.Take(2)
	if !bytes.Equal(got, []byte{1, 2}) {
		t.Error(got)
	}
	part, _ := r.Part(2)
	first, _ := part.Take(1)
	first = append(first, 77)
	first[0] = 66
	if x, ok := part.Number(1); x != 4 || !ok {
		t.Error(x, ok)
	}
	if !bytes.Equal(b, []byte{1, 99, 3, 4}) {
		t.Error(b)
	}
}

func TestNumber(t *testing.T) { // P1.2
	b := []byte{1, 2, 3, 4, 255, 255, 255, 255}
	for _, c := range []struct {
		k    int
		want uint32
	}{{1, 1}, {2, 0x102}, {3, 0x10203}, {4, 0x1020304}} {
		r := octet.New(b)
		if x, ok := r.Number(c.k); x != c.want || !ok || r.At() != c.k || r.Left() != 8-c.k {
			t.Error(c.k, x, ok)
		}
	}
	r := octet.New(b[4:])
	if x, ok := r.Number(4); x != math.MaxUint32 || !ok {
		t.Error(x, ok)
	}
	for _, k := range []int{1, 4} {
		if x, ok := r.Number(k); x != 0 || ok || r.At() != 4 || r.Left() != 0 {
			t.Error(k, x, ok)
		}
	}
	r = octet.New(b)
	for _, k := range []int{math.MinInt, -1, 0, 5, math.MaxInt} {
		if x, ok := r.Number(k); x != 0 || ok || r.At() != 0 || r.Left() != 8 {
			t.Error(k, x, ok)
		}
	}
	var none *octet.Reader
	if x, ok := none.Number(1); x != 0 || ok {
		t.Error(x, ok)
	}
}

func TestTakeAndPart(t *testing.T) { // P1.2
	r := octet.New([]byte{1, 2, 3, 4, 5})
	r.Take(1)
	for _, n := range []int{math.MinInt, -1, 5, math.MaxInt} {
		if b, ok := r.Take(n); len(b) != 0 || ok {
			t.Error(n, b, ok)
		}
		if p, ok := r.Part(n); p != nil || ok {
			t.Error(n, p, ok)
		}
		if r.At() != 1 || r.Left() != 4 {
			t.Error(n, r.At(), r.Left())
		}
	}
	if b, ok := r.Take(0); len(b) != 0 || !ok || r.At() != 1 {
		t.Error(b, ok)
	}
	p, ok := r.Part(3)
	if !ok || p.At() != 1 || p.Left() != 3 || r.At() != 4 || r.Left() != 1 {
		t.Fatal(p, ok)
	}
	inner, ok := p.Part(2)
	if !ok || inner.At() != 1 || inner.Left() != 2 || p.At() != 3 || r.At() != 4 {
		t.Error(inner, ok)
	}
	if b, ok := p.Take(1); !bytes.Equal(b, []byte{4}) || !ok || p.At() != 4 {
		t.Error(b, ok)
	}
	if b, ok := p.Take(1); len(b) != 0 || ok {
		t.Error("a part goes beyond its end", b)
	}
	if b, ok := r.Take(1); !bytes.Equal(b, []byte{5}) || !ok {
		t.Error(b, ok)
	}
	if end, ok := r.Part(0); !ok || end.At() != 5 || end.Left() != 0 {
		t.Error(end, ok)
	}
	var none *octet.Reader
	if p, ok := none.Part(0); !ok || p == nil || p.At() != 0 || p.Left() != 0 {
		t.Error(p, ok)
	}
	if p, ok := none.Part(1); ok || p != nil {
		t.Error(p, ok)
	}
	if b, ok := none.Take(0); !ok || len(b) != 0 {
		t.Error(b, ok)
	}
}

func TestPut(t *testing.T) { // P1.3
	for _, c := range []struct {
		k    int
		x    uint32
		want []byte
	}{
		{1, 0, []byte{0}}, {1, 255, []byte{255}}, {2, 258, []byte{1, 2}}, {2, 65535, []byte{255, 255}},
		{3, 1, []byte{0, 0, 1}}, {3, 1<<24 - 1, []byte{255, 255, 255}},
		{4, 0x01020304, []byte{1, 2, 3, 4}}, {4, math.MaxUint32, []byte{255, 255, 255, 255}},
	} {
		if b, ok := octet.Put(c.k, c.x); !bytes.Equal(b, c.want) || !ok {
			t.Error(c.k, c.x, b, ok)
		}
	}
	for _, c := range []struct {
		k int
		x uint32
	}{
		{1, 256}, {2, 65536}, {3, 1 << 24}, {1, math.MaxUint32},
		{0, 0}, {5, 0}, {-1, 0}, {math.MinInt, 1}, {math.MaxInt, 1},
	} {
		if b, ok := octet.Put(c.k, c.x); len(b) != 0 || ok {
			t.Error(c.k, c.x, b, ok)
		}
	}
}

func TestCat(t *testing.T) { // P1.4
	a, b := make([]byte, 1, 9), []byte{2, 3}
	a[0] = 1
	got := octet.Cat(a, nil, b, []byte{})
	if !bytes.Equal(got, []byte{1, 2, 3}) {
		t.Error(got)
	}
	got[0], got[1] = 9, 9
	if a[0] != 1 || b[0] != 2 {
		t.Error("the result shares memory with a part")
	}
	single := octet.Cat(b)
	single[0] = 9
	if b[0] != 2 {
		t.Error("a single part is not copied")
	}
	if len(octet.Cat()) != 0 || len(octet.Cat(nil, nil)) != 0 {
		t.Error("nothing is joined to something")
	}
}

func TestAll(t *testing.T) { // P1.4
	for _, c := range []struct {
		x    byte
		b    []byte
		want bool
	}{
		{255, nil, true}, {255, []byte{255}, true}, {0, []byte{0, 0, 0}, true},
		{5, []byte{5, 5, 6}, false}, {5, []byte{6, 5, 5}, false}, {5, []byte{5, 4, 5}, false}, {0, []byte{1}, false},
	} {
		if octet.All(c.x, c.b...) != c.want {
			t.Error(c)
		}
	}
}

func TestNumberReadsWhatPutWrites(t *testing.T) { // P1.5
	for k := 1; k <= 4; k++ {
		for x := uint64(0); x < 1<<(8*k); x = x*3 + 1 {
			b, ok := octet.Put(k, uint32(x))
			if !ok || len(b) != k {
				t.Fatal(k, x, b)
			}
			if got, ok := octet.New(b).Number(k); got != uint32(x) || !ok {
				t.Error(k, x, got)
			}
		}
	}
}

func TestPartLeavesItsReaderAlone(t *testing.T) { // P1.5
	r := octet.New([]byte{1, 2, 3, 4, 5, 6})
	p, _ := r.Part(4)
	q, _ := r.Part(1)
	p.Number(2)
	p.Take(2)
	q.Number(1)
	if r.At() != 5 || r.Left() != 1 {
		t.Error(r.At(), r.Left())
	}
	r.Number(1)
	if p.At() != 4 || q.At() != 5 || q.Left() != 0 {
		t.Error(p.At(), q.At(), q.Left())
	}
}
