package merge_test

import (
	"math"
	"math/rand"
	"slices"
	"testing"

	"peerage/api"
	"peerage/attrs"
	"peerage/merge"
	"peerage/segment"
	"peerage/value"
)

func parse(t *testing.T, s string) []api.Segment {
	t.Helper()
	l, ok := segment.Parse(s)
	if !ok {
		t.Fatal(s)
	}
	return l
}

func same(a, b []api.Attr) bool { return slices.EqualFunc(a, b, value.Same) }

func TestHead(t *testing.T) { // P21.1
	for _, c := range []struct {
		n          int
		path, want string
	}{
		{0, "[1 2]", ""}, {-1, "[1 2]", ""}, {math.MinInt, "{1}", ""}, {1, "", ""}, {1, "[1 2]", "[1]"}, {2, "[1 2]", "[1 2]"}, {3, "[1 2]", "[1 2]"}, {math.MaxInt, "[1 2] {3}", "[1 2] {3}"},
		{2, "[1 2] [3 4]", "[1 2]"}, {3, "[1 2] [3 4]", "[1 2] [3]"}, {1, "{1 2 3} {4}", "{1 2 3}"}, {2, "{1 2 3} {4}", "{1 2 3} {4}"}, {2, "{1 2} [3 4 5]", "{1 2} [3]"},
		{1, "{1 2} [3 4 5]", "{1 2}"}, {2, "[1 2] {3 4}", "[1 2]"}, {3, "[1 2] {3 4} [5]", "[1 2] {3 4}"}, {1, "[1 2] {3}", "[1]"},
	} {
		path := parse(t, c.path)
		got := merge.Head(c.n, path...)
		if segment.Text(got...) != c.want || len(got) == 0 != (c.want == "") || segment.Text(path...) != c.path {
			t.Error(c, got)
		}
		for _, s := range got {
			if s.AS = append(s.AS, 99); true {
				s.AS[0] = 99
			}
		}
		if segment.Text(path...) != c.path {
			t.Error("the result shares memory with the argument", path)
		}
	}
}

func TestPaths(t *testing.T) { // P21.1
	for _, c := range []struct{ path, path4, want string }{
		{"[1 23456]", "[70000]", "[1] [70000]"}, {"[1 2]", "[70000 70001]", "[70000 70001]"}, {"[1 2]", "[3 4 5]", "[1 2]"}, {"[1]", "", "[1]"}, {"", "", ""}, {"", "[1]", ""}, {"", "{1}", ""},
		{"[1 2 3]", "{70000 70001}", "[1 2] {70000 70001}"}, {"{1 2} [3 4]", "[70000]", "{1 2} [3] [70000]"}, {"{1 2} [3 4]", "[70000 4]", "{1 2} [70000 4]"}, {"[1] {2 3} [4 5]", "[70000] [5]", "[1] {2 3} [70000] [5]"},
		{"{1 2 3}", "[70000]", "[70000]"}, {"{1 2 3}", "[70000 1]", "{1 2 3}"}, {"[1 2] [3 4]", "[5]", "[1 2] [3] [5]"},
	} {
		path, path4 := parse(t, c.path), parse(t, c.path4)
		got := merge.Paths(path, path4)
		if segment.Text(got...) != c.want || len(got) == 0 != (c.want == "") {
			t.Error(c, got)
		}
		for _, s := range got {
			s.AS[0] = 99
		}
		if segment.Text(path...) != c.path || segment.Text(path4...) != c.path4 {
			t.Error("the result shares memory with an argument", c)
		}
	}
}

func TestNarrow(t *testing.T) { // P21.2
	for _, c := range []struct{ path, narrow, wide string }{
		{"", "", ""}, {"[1 65535] {3}", "[1 65535] {3}", ""}, {"[1 23456]", "[1 23456]", ""}, {"[1 65536] {3}", "[1 23456] {3}", "[1 65536] {3}"}, {"{4294967295 2}", "{23456 2}", "{4294967295 2}"},
	} {
		path := parse(t, c.path)
		narrow, wide := merge.Narrow(path)
		if segment.Text(narrow...) != c.narrow || segment.Text(wide...) != c.wide || len(wide) == 0 != (c.wide == "") {
			t.Error(c, narrow, wide)
		}
		for i := range wide {
			wide[i].AS[0] = 99
		}
		if segment.Text(path...) != c.path || segment.Text(narrow...) != c.narrow {
			t.Error("results share memory", c)
		}
	}
}

func path(t *testing.T, kind int, s string) api.Attr {
	return api.Attr{Type: kind, Segs: parse(t, s)}
}

func TestWiden(t *testing.T) { // P21.3
	origin, hop, comms := api.Attr{Type: 1, N: 1}, api.Attr{Type: 3, N: 9}, api.Attr{Type: 8, List: []uint32{1}}
	agg := func(n, m uint32) api.Attr { return api.Attr{Type: 7, N: n, M: m} }
	agg4 := func(n, m uint32) api.Attr { return api.Attr{Type: 18, N: n, M: m} }
	partial := func(a api.Attr) api.Attr { a.Partial = true; return a }
	for i, c := range []struct{ l, want []api.Attr }{
		{nil, nil},
		{[]api.Attr{origin, hop, comms}, []api.Attr{origin, hop, comms}},
		{[]api.Attr{origin, path(t, 2, "[1 23456]"), path(t, 17, "[70000]")}, []api.Attr{origin, path(t, 2, "[1] [70000]")}},
		{[]api.Attr{path(t, 2, "[1]"), partial(path(t, 17, "[2 3]"))}, []api.Attr{path(t, 2, "[1]")}},
		{[]api.Attr{path(t, 2, "[1 23456]")}, []api.Attr{path(t, 2, "[1 23456]")}},
		{[]api.Attr{origin, path(t, 17, "[70000]")}, []api.Attr{origin}},
		{[]api.Attr{agg(23456, 1), agg4(70000, 2)}, []api.Attr{agg(70000, 2)}},
		{[]api.Attr{partial(agg(23456, 1)), comms, agg4(70000, 2)}, []api.Attr{partial(agg(70000, 2)), comms}},
		{[]api.Attr{agg(5, 1), agg4(70000, 2)}, []api.Attr{agg(5, 1)}},
		{[]api.Attr{agg(23456, 1)}, []api.Attr{agg(23456, 1)}},
		{[]api.Attr{origin, agg4(70000, 2)}, []api.Attr{origin}},
	} {
		if got := merge.Widen(c.l...); !same(got, c.want) {
			t.Error(i, got)
		}
	}
	l := []api.Attr{comms}
	if got := merge.Widen(l...); got[0].List[0] == 1 {
		if got[0].List[0] = 9; comms.List[0] != 1 {
			t.Error("the result shares memory with the argument")
		}
	}
}

func TestSqueeze(t *testing.T) { // P21.4
	origin, large := api.Attr{Type: 1, N: 1}, api.Attr{Type: 32, List: []uint32{1, 2, 3}, Partial: true}
	for i, c := range []struct{ l, want []api.Attr }{
		{nil, nil},
		{[]api.Attr{origin, path(t, 2, "[1 2]"), large}, []api.Attr{origin, path(t, 2, "[1 2]"), large}},
		{[]api.Attr{origin, path(t, 2, "[1 70000]"), large}, []api.Attr{origin, path(t, 2, "[1 23456]"), path(t, 17, "[1 70000]"), large}},
		{[]api.Attr{path(t, 2, "")}, []api.Attr{path(t, 2, "")}},
		{[]api.Attr{path(t, 2, "{70000}"), {Type: 7, N: 70000, M: 1, Partial: true}, large}, []api.Attr{path(t, 2, "{23456}"), {Type: 7, N: 23456, M: 1, Partial: true}, path(t, 17, "{70000}"), {Type: 18, N: 70000, M: 1, Partial: true}, large}},
		{[]api.Attr{{Type: 7, N: 65535, M: 1}}, []api.Attr{{Type: 7, N: 65535, M: 1}}},
	} {
		if got := merge.Squeeze(c.l...); !same(got, c.want) {
			t.Error(i, got)
		}
	}
	got := merge.Squeeze(large)
	if got[0].List[0] = 9; large.List[0] != 1 {
		t.Error("the result shares memory with the argument")
	}
}

func TestConsequences(t *testing.T) { // P21.5
	rng := rand.New(rand.NewSource(6))
	wide, narrow := api.Options{AS4: true}, api.Options{}
	number := func() uint32 { return []uint32{1, 2, 23456, 65535, 65536, 70000}[rng.Intn(6)] }
	for range 3000 {
		p := api.Attr{Type: api.Path}
		for range rng.Intn(4) {
			s := api.Segment{Kind: 1 + rng.Intn(2)}
			for range 1 + rng.Intn(3) {
				s.AS = append(s.AS, number())
			}
			p.Segs = append(p.Segs, s)
		}
		if !segment.Same(merge.Paths(p.Segs, p.Segs), p.Segs) {
			t.Fatal(p.Segs)
		}
		l := []api.Attr{{Type: 1}, p, {Type: 3}, {Type: 7, Partial: rng.Intn(2) == 0, N: number(), M: 5}, {Type: 99, Partial: true}}
		l = slices.Delete(l, 0, rng.Intn(4))
		squeezed := merge.Squeeze(l...)
		if !attrs.Valid(wide, l...) || !attrs.Valid(narrow, squeezed...) || !same(merge.Widen(squeezed...), l) {
			t.Fatal(l, squeezed)
		}
	}
}
