package finding_test

import (
	"math"
	"math/rand"
	"slices"
	"testing"

	"peerage/api"
	"peerage/finding"
)

func at(kind, at int) api.Verdict { return api.Verdict{Kind: kind, At: at} }

// strange are verdicts of all sorts, in no order.
var strange = []api.Verdict{
	{}, at(0, 5), at(1, 0), at(1, 9), at(2, 9), at(2, 3), at(3, 3), {Kind: 3, Sub: 1, At: 2}, {Kind: 4, Code: 3, Sub: 5, Data: []byte{1, 2}, At: 30},
	{Kind: 4, Code: 1, At: 30}, at(5, 0), at(-1, 7), at(math.MinInt, math.MinInt), at(math.MaxInt, math.MaxInt), at(2, -1), at(4, math.MinInt),
}

func TestProper(t *testing.T) { // P11.1
	for _, c := range []struct {
		v    api.Verdict
		want bool
	}{
		{api.Verdict{}, true}, {api.Verdict{Data: []byte{}}, true}, {at(0, 1), false}, {at(0, -1), false}, {api.Verdict{Code: 1}, false}, {api.Verdict{Sub: 1}, false}, {api.Verdict{Data: []byte{0}}, false},
		{at(1, 0), true}, {at(1, math.MaxInt), true}, {at(1, -1), false}, {api.Verdict{Kind: 1, Code: 1}, false}, {api.Verdict{Kind: 1, Sub: 1}, false}, {api.Verdict{Kind: 1, Data: []byte{0}}, false},
		{at(2, 7), true}, {at(2, math.MinInt), false}, {api.Verdict{Kind: 2, Code: -1}, false}, {api.Verdict{Kind: 2, Sub: -1}, false}, {api.Verdict{Kind: 2, Data: []byte{0}}, false},
		{at(3, 7), false}, {api.Verdict{Kind: 3, Sub: 1}, true}, {api.Verdict{Kind: 3, Sub: 2, At: 5}, true}, {api.Verdict{Kind: 3, Sub: 3}, false}, {api.Verdict{Kind: 3, Sub: -1}, false},
		{api.Verdict{Kind: 3, Sub: 1, Code: 1}, false}, {api.Verdict{Kind: 3, Sub: 1, Data: []byte{1}}, false}, {api.Verdict{Kind: 3, Sub: 1, At: -1}, false},
		{at(4, 7), false}, {api.Verdict{Kind: 4, Code: 1}, true}, {api.Verdict{Kind: 4, Code: 6, Sub: 255, Data: []byte{1}, At: 9}, true}, {api.Verdict{Kind: 4, Code: 7}, false}, {api.Verdict{Kind: 4, Code: -1}, false},
		{api.Verdict{Kind: 4, Code: 1, Sub: -1}, false}, {api.Verdict{Kind: 4, Code: 1, Sub: 256}, false}, {api.Verdict{Kind: 4, Code: 1, At: -1}, false}, {api.Verdict{Kind: 4, Code: math.MaxInt}, false},
		{at(5, 0), false}, {at(-1, 0), false}, {at(math.MinInt, 0), false}, {api.Verdict{Kind: 5, Code: 1}, false},
	} {
		if finding.Proper(c.v) != c.want {
			t.Error(c)
		}
		if (finding.Text(c.v) != "") != c.want {
			t.Error(c, finding.Text(c.v))
		}
	}
}

func TestSameAndWorse(t *testing.T) { // P11.1
	for i, a := range strange {
		for j, b := range strange {
			if finding.Same(a, b) != (i == j) {
				t.Error(a, b)
			}
			if finding.Worse(a, b) != (a.Kind > b.Kind || a.Kind == b.Kind && a.At < b.At) {
				t.Error(a, b)
			}
		}
	}
	a := api.Verdict{Kind: 4, Code: 3, Sub: 5, Data: []byte{1, 2}, At: 30}
	for _, change := range []func(*api.Verdict){
		func(v *api.Verdict) { v.Kind++ }, func(v *api.Verdict) { v.Code++ }, func(v *api.Verdict) { v.Sub++ }, func(v *api.Verdict) { v.At++ },
		func(v *api.Verdict) { v.Data = nil }, func(v *api.Verdict) { v.Data = []byte{1, 3} }, func(v *api.Verdict) { v.Data = []byte{1, 2, 0} },
	} {
		b := a
		change(&b)
		if finding.Same(a, b) || finding.Same(b, a) {
			t.Error(a, b)
		}
	}
	if !finding.Same(at(1, 1), api.Verdict{Kind: 1, At: 1, Data: []byte{}}) {
		t.Error("empty Data are the same as none")
	}
}

func TestFold(t *testing.T) { // P11.2
	if !finding.Same(finding.Fold(), api.Verdict{}) {
		t.Error(finding.Fold())
	}
	first := api.Verdict{Kind: 4, Code: 1, Sub: 1, Data: []byte{5}, At: 3}
	second := api.Verdict{Kind: 4, Code: 2, Sub: 2, At: 3}
	for _, c := range []struct {
		l    []api.Verdict
		want api.Verdict
	}{
		{[]api.Verdict{first, second}, first}, {[]api.Verdict{second, first}, second}, {[]api.Verdict{at(1, 0), first, at(4, 4)}, first},
		{[]api.Verdict{at(1, 5), at(1, 2), at(1, 3)}, at(1, 2)}, {[]api.Verdict{at(2, 9), at(1, 2), at(2, 8)}, at(2, 8)}, {[]api.Verdict{at(-3, 9)}, at(-3, 9)},
		{[]api.Verdict{at(0, 0), at(0, -1)}, at(0, -1)}, {[]api.Verdict{at(math.MinInt, 1), at(-1, 1)}, at(-1, 1)},
	} {
		if got := finding.Fold(c.l...); !finding.Same(got, c.want) {
			t.Error(c, got)
		}
	}
	l := []api.Verdict{first}
	got := finding.Fold(l...)
	if got.Data[0] = 9; first.Data[0] != 5 {
		t.Error("the result shares memory with the argument")
	}
}

func TestText(t *testing.T) { // P11.3
	for _, c := range []struct {
		v    api.Verdict
		want string
	}{
		{api.Verdict{}, "accept"}, {at(1, 0), "discard at 0"}, {at(2, 23), "withdraw at 23"},
		{api.Verdict{Kind: 3, Sub: 1, At: 7}, "reset ipv4 at 7"}, {api.Verdict{Kind: 3, Sub: 2}, "reset ipv6 at 0"},
		{api.Verdict{Kind: 4, Code: 3, Sub: 5, Data: []byte{1, 2}, At: 30}, "notify 3 5 0102 at 30"},
		{api.Verdict{Kind: 4, Code: 6, Sub: 255, At: 1}, "notify 6 255 at 1"}, {api.Verdict{Kind: 4, Code: 1, Data: []byte{0xab}}, "notify 1 0 ab at 0"},
		{at(3, 1), ""}, {at(9, 1), ""}, {at(1, -1), ""},
	} {
		if s := finding.Text(c.v); s != c.want {
			t.Error(c, s)
		}
	}
}

func TestLog(t *testing.T) { // P11.4
	l := finding.New()
	if l.Add() != 0 || !finding.Same(l.Worst(), api.Verdict{}) || len(l.All()) != 0 || l.Count(0) != 0 {
		t.Error("a new log is not empty")
	}
	if n := l.Add(strange...); n != len(strange)-2 {
		t.Error(n)
	}
	if n := l.Add(api.Verdict{}, at(0, 3), at(1, 1)); n != len(strange)-1 {
		t.Error(n)
	}
	want := slices.DeleteFunc(slices.Clone(strange), func(v api.Verdict) bool { return v.Kind == 0 })
	want = append(want, at(1, 1))
	if got := l.All(); !slices.EqualFunc(got, want, finding.Same) {
		t.Error(got)
	}
	for kind, n := range map[int]int{0: 0, 1: 3, 2: 3, 3: 2, 4: 3, 5: 1, -1: 1, 6: 0, math.MinInt: 1, math.MaxInt: 1} {
		if l.Count(kind) != n {
			t.Error(kind, l.Count(kind))
		}
	}
	if !finding.Same(l.Worst(), finding.Fold(want...)) {
		t.Error(l.Worst())
	}
	other := finding.New()
	if other.Add(at(1, 1)) != 1 || l.Add() != len(want) {
		t.Error("logs depend on each other")
	}
}

func TestLogKeepsCopies(t *testing.T) { // P11.4, and the rule on slices
	data := []byte{1}
	l := finding.New()
	l.Add(api.Verdict{Kind: 4, Code: 1, Data: data})
	data[0] = 2
	all := l.All()
	all[0].Data[0], all[0].Code = 3, 3
	worst := l.Worst()
	worst.Data[0] = 4
	if got := l.All(); got[0].Data[0] != 1 || got[0].Code != 1 || l.Worst().Data[0] != 1 {
		t.Error(got)
	}
}

func TestNilLog(t *testing.T) { // P11.4
	var l *finding.Log
	if l.Add(at(1, 1)) != 0 || !finding.Same(l.Worst(), api.Verdict{}) || l.Count(1) != 0 || len(l.All()) != 0 {
		t.Error("a nil log does something")
	}
}

func TestFoldOfTwoLists(t *testing.T) { // P11.5
	rng := rand.New(rand.NewSource(1))
	for range 2000 {
		var l []api.Verdict
		for range 2 + rng.Intn(6) {
			l = append(l, strange[rng.Intn(len(strange))])
		}
		cut := 1 + rng.Intn(len(l)-1)
		whole := finding.Fold(l...)
		if parts := finding.Fold(finding.Fold(l[:cut]...), finding.Fold(l[cut:]...)); !finding.Same(whole, parts) {
			t.Fatal(l, cut, whole, parts)
		}
	}
}
