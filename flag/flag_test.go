package flag_test

import (
	"bytes"
	"math"
	"slices"
	"strconv"
	"testing"

	"peerage/flag"
	"peerage/octet"
)

type known struct {
	kind, class int
	name        string
}

// table is the table of the chapter, by ascending types.
var table = []known{
	{1, 64, "ORIGIN"}, {2, 64, "AS_PATH"}, {3, 64, "NEXT_HOP"}, {4, 128, "MULTI_EXIT_DISC"}, {5, 64, "LOCAL_PREF"}, {6, 64, "ATOMIC_AGGREGATE"},
	{7, 192, "AGGREGATOR"}, {8, 192, "COMMUNITIES"}, {9, 128, "ORIGINATOR_ID"}, {10, 128, "CLUSTER_LIST"}, {14, 128, "MP_REACH_NLRI"}, {15, 128, "MP_UNREACH_NLRI"},
	{16, 192, "EXTENDED_COMMUNITIES"}, {17, 192, "AS4_PATH"}, {18, 192, "AS4_AGGREGATOR"}, {32, 192, "LARGE_COMMUNITY"},
}

func find(kind int) (known, bool) {
	for _, k := range table {
		if k.kind == kind {
			return k, true
		}
	}
	return known{}, false
}

func TestClassAndName(t *testing.T) { // P10.1
	for kind := -300; kind < 600; kind++ {
		k, want := find(kind)
		if class, ok := flag.Class(kind); class != k.class || ok != want {
			t.Error(kind, class, ok)
		}
		if !want {
			k.name = "TYPE " + strconv.Itoa(kind)
		}
		if flag.Name(kind) != k.name {
			t.Error(kind, flag.Name(kind))
		}
	}
	for kind, want := range map[int]string{0: "TYPE 0", 11: "TYPE 11", 33: "TYPE 33", 255: "TYPE 255", -5: "TYPE -5", math.MinInt: "TYPE -9223372036854775808", math.MaxInt: "TYPE 9223372036854775807"} {
		if flag.Name(kind) != want {
			t.Error(kind, flag.Name(kind))
		}
	}
}

func TestTypes(t *testing.T) { // P10.1
	for _, flags := range [][]int{nil, {64}, {128}, {192}, {64, 128}, {128, 64, 128}, {192, 192, 192}, {64, 128, 192}, {0, 32, -64, 255}, {5, 192}, {math.MinInt}} {
		var want []int
		for _, k := range table {
			if slices.Contains(flags, k.class) {
				want = append(want, k.kind)
			}
		}
		if got := flag.Types(flags...); !slices.Equal(got, want) {
			t.Error(flags, got)
		}
	}
}

func TestRight(t *testing.T) { // P10.2
	for kind := -2; kind < 300; kind++ {
		for flags := 0; flags < 256; flags++ {
			k, ok := find(kind)
			want := flags&128 != 0
			if ok {
				want = flags&192 == k.class && (flags&32 == 0 || k.class == 192)
			}
			for _, high := range []int{0, 256, -256, 1 << 40, math.MinInt} {
				if flag.Right(flag.Head{Flags: flags + high, Type: kind, Len: -7}) != want {
					t.Fatal(kind, flags, high)
				}
			}
		}
	}
}

func TestRead(t *testing.T) { // P10.3
	for _, c := range []struct {
		b    []byte
		want flag.Head
		left int
	}{
		{[]byte{64, 1, 1, 9}, flag.Head{Flags: 64, Type: 1, Len: 1}, 1},
		{[]byte{0x50, 2, 1, 2}, flag.Head{Flags: 0x50, Type: 2, Len: 258}, 0},
		{[]byte{0x5f, 255, 255, 255, 1}, flag.Head{Flags: 0x5f, Type: 255, Len: 65535}, 1},
		{[]byte{0xef, 0, 255}, flag.Head{Flags: 0xef, Type: 0, Len: 255}, 0},
	} {
		r := octet.New(c.b)
		if h, ok := flag.Read(r); !ok || h != c.want || r.Left() != c.left {
			t.Error(c, h, ok)
		}
	}
	for _, b := range [][]byte{nil, {64}, {64, 1}, {16}, {16, 1}, {16, 1, 0}} {
		if h, ok := flag.Read(octet.New(b)); ok || h != (flag.Head{}) {
			t.Error(b, h)
		}
	}
	if h, ok := flag.Read(nil); ok || h != (flag.Head{}) {
		t.Error(h)
	}
}

func TestBytes(t *testing.T) { // P10.3
	for _, c := range []struct {
		h    flag.Head
		want []byte
	}{
		{flag.Head{Flags: 64, Type: 1, Len: 1}, []byte{64, 1, 1}},
		{flag.Head{Flags: 0, Type: 0, Len: 0}, []byte{0, 0, 0}},
		{flag.Head{Flags: 239, Type: 255, Len: 255}, []byte{239, 255, 255}},
		{flag.Head{Flags: 16, Type: 9, Len: 5}, []byte{16, 9, 0, 5}},
		{flag.Head{Flags: 255, Type: 9, Len: 65535}, []byte{255, 9, 255, 255}},
	} {
		if b, ok := flag.Bytes(c.h); !ok || !bytes.Equal(b, c.want) {
			t.Error(c, b, ok)
		}
	}
	for _, h := range []flag.Head{
		{-1, 0, 0}, {256, 0, 0}, {0, -1, 0}, {0, 256, 0}, {0, 0, -1}, {0, 0, 256}, {16, 0, 65536}, {16, 0, -1}, {math.MinInt, 1, 1}, {64, math.MaxInt, 1}, {64, 1, math.MaxInt}, {16, 1, math.MinInt}, {16, 1, 1 << 32}, {0, 1, 1 << 32},
	} {
		if b, ok := flag.Bytes(h); ok || len(b) != 0 {
			t.Error(h, b)
		}
	}
}

func TestCanonical(t *testing.T) { // P10.4
	for _, c := range []struct {
		kind    int
		partial bool
		n       int
		want    flag.Head
	}{
		{1, false, 1, flag.Head{Flags: 64, Type: 1, Len: 1}},
		{2, false, 255, flag.Head{Flags: 64, Type: 2, Len: 255}},
		{2, false, 256, flag.Head{Flags: 80, Type: 2, Len: 256}},
		{14, false, 65535, flag.Head{Flags: 144, Type: 14, Len: 65535}},
		{8, true, 4, flag.Head{Flags: 224, Type: 8, Len: 4}},
		{8, true, 300, flag.Head{Flags: 240, Type: 8, Len: 300}},
		{99, false, 0, flag.Head{Flags: 192, Type: 99, Len: 0}},
		{0, true, 0, flag.Head{Flags: 224, Type: 0, Len: 0}},
		{255, true, 256, flag.Head{Flags: 240, Type: 255, Len: 256}},
	} {
		if h, ok := flag.Canonical(c.kind, c.partial, c.n); !ok || h != c.want {
			t.Error(c, h, ok)
		}
	}
	for _, c := range []struct {
		kind    int
		partial bool
		n       int
	}{
		{-1, false, 0}, {256, false, 0}, {1, false, -1}, {1, false, 65536}, {1, true, 1}, {14, true, 9}, {9, true, 4}, {math.MinInt, true, 0}, {8, true, math.MaxInt}, {99, true, math.MinInt},
	} {
		if h, ok := flag.Canonical(c.kind, c.partial, c.n); ok || h != (flag.Head{}) {
			t.Error(c, h)
		}
	}
	for n, want := range map[int]int{0: 3, 255: 3, 256: 4, 65535: 4, -1: 3, math.MinInt: 3, math.MaxInt: 4} {
		if flag.Size(n) != want {
			t.Error(n, flag.Size(n))
		}
	}
}

func TestConsequences(t *testing.T) { // P10.5
	for kind := 0; kind < 256; kind++ {
		for _, n := range []int{0, 1, 255, 256, 4096, 65535} {
			for _, partial := range []bool{false, true} {
				h, ok := flag.Canonical(kind, partial, n)
				if !ok {
					continue
				}
				b, ok := flag.Bytes(h)
				r := octet.New(b)
				got, ok2 := flag.Read(r)
				if !ok || !ok2 || got != h || r.Left() != 0 || len(b) != flag.Size(n) || !flag.Right(h) {
					t.Error(h, got)
				}
			}
		}
	}
	for flags := 0; flags < 256; flags++ {
		h := flag.Head{Flags: flags, Type: 77, Len: 200}
		b, _ := flag.Bytes(h)
		if got, ok := flag.Read(octet.New(b)); !ok || got != h {
			t.Error(h, got)
		}
	}
}
