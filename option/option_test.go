package option_test

import (
	"math"
	"slices"
	"strings"
	"testing"

	"peerage/api"
	"peerage/option"
)

// every returns all 64 options.
func every() []api.Options {
	var l []api.Options
	for i := 0; i < 64; i++ {
		l = append(l, api.Options{AS4: i&1 != 0, Extended: i&2 != 0, MP4: i&4 != 0, MP6: i&8 != 0, Add4: i&16 != 0, Add6: i&32 != 0})
	}
	return l
}

func TestValid(t *testing.T) { // P5.1
	for _, o := range every() {
		if option.Valid(o) != (o.MP6 || !o.Add6) {
			t.Error(o)
		}
	}
}

func TestBoth(t *testing.T) { // P5.1 and P5.4
	for _, a := range every() {
		for _, b := range every() {
			want := api.Options{
				AS4: a.AS4 && b.AS4, Extended: a.Extended && b.Extended, MP4: a.MP4 && b.MP4, MP6: a.MP6 && b.MP6,
				Add4: a.Add4 && b.Add4, Add6: a.Add6 && b.Add6 && a.MP6 && b.MP6,
			}
			got := option.Both(a, b)
			if got != want || got != option.Both(b, a) || !option.Valid(got) {
				t.Error(a, b, got)
			}
		}
	}
}

func TestFamilies(t *testing.T) { // P5.2
	for _, o := range every() {
		if option.MP(o, 1) != o.MP4 || option.MP(o, 2) != o.MP6 || option.Add(o, 1) != o.Add4 || option.Add(o, 2) != o.Add6 {
			t.Error(o)
		}
		for _, fam := range []int{0, 3, -1, math.MinInt, math.MaxInt} {
			if option.MP(o, fam) || option.Add(o, fam) {
				t.Error(o, fam)
			}
		}
		width, families := 2, []int{1}
		if o.AS4 {
			width = 4
		}
		if o.MP6 {
			families = []int{1, 2}
		}
		if option.Width(o) != width || !slices.Equal(option.Families(o), families) {
			t.Error(o, option.Width(o), option.Families(o))
		}
	}
	l := option.Families(api.Options{})
	l[0] = 7
	if option.Families(api.Options{})[0] != 1 {
		t.Error("two results share memory")
	}
}

func TestText(t *testing.T) { // P5.3
	for _, c := range []struct {
		o    api.Options
		want string
	}{
		{api.Options{}, "-"},
		{api.Options{AS4: true}, "as4"},
		{api.Options{AS4: true, MP6: true}, "as4 mp6"},
		{api.Options{Add6: true}, "add6"},
		{api.Options{Extended: true, MP4: true, Add4: true}, "extended mp4 add4"},
		{api.Options{AS4: true, Extended: true, MP4: true, MP6: true, Add4: true, Add6: true}, "as4 extended mp4 mp6 add4 add6"},
	} {
		if got := option.Text(c.o); got != c.want {
			t.Error(c, got)
		}
	}
}

func TestParse(t *testing.T) { // P5.3 and P5.4
	for _, o := range every() {
		if got, ok := option.Parse(option.Text(o)); !ok || got != o {
			t.Error(o, got, ok)
		}
	}
	for _, s := range []string{
		"", " ", "--", "- ", " -", "- as4", "as4 -", "AS4", "as", "as4 ", " as4", "as4  mp4", "mp4 as4", "as4 as4", "as4,mp4", "as4\tmp4", "add6 mp6", "mp7", "as4\n",
		strings.Repeat("as4 ", 100),
	} {
		if got, ok := option.Parse(s); ok || got != (api.Options{}) {
			t.Errorf("%q %v", s, got)
		}
	}
}

func TestOf(t *testing.T) { // P5.3
	for _, c := range []struct {
		names []string
		want  api.Options
	}{
		{nil, api.Options{}},
		{[]string{"add6"}, api.Options{Add6: true}},
		{[]string{"mp6", "as4"}, api.Options{AS4: true, MP6: true}},
		{[]string{"add6", "add4", "mp6", "mp4", "extended", "as4"}, api.Options{AS4: true, Extended: true, MP4: true, MP6: true, Add4: true, Add6: true}},
	} {
		if got, ok := option.Of(c.names...); !ok || got != c.want {
			t.Error(c, got, ok)
		}
	}
	for _, names := range [][]string{{""}, {"-"}, {"as4", "as4"}, {"as4", "mp4", "as4"}, {"as4", "x"}, {"as4 mp4"}} {
		if got, ok := option.Of(names...); ok || got != (api.Options{}) {
			t.Error(names, got)
		}
	}
}
