package negotiate_test

import (
	"testing"

	"peerage/api"
	"peerage/capability"
	"peerage/negotiate"
	"peerage/open"
	"peerage/option"
)

func cp(code int, data ...byte) capability.Cap { return capability.Cap{Code: code, Data: data} }

func with(caps ...capability.Cap) open.Open { return open.Open{AS: 1, Hold: 90, ID: 1, Caps: caps} }

func every() []api.Options {
	var l []api.Options
	for i := 0; i < 64; i++ {
		l = append(l, api.Options{AS4: i&1 != 0, Extended: i&2 != 0, MP4: i&4 != 0, MP6: i&8 != 0, Add4: i&16 != 0, Add6: i&32 != 0})
	}
	return l
}

func TestBetween(t *testing.T) { // P22.1
	as, ext, four, six := cp(65, 0, 0, 0, 1), cp(6), cp(1, 0, 1, 0, 1), cp(1, 0, 2, 0, 1)
	add := func(fam, mode byte) capability.Cap { return cp(69, 0, fam, 1, mode) }
	for i, c := range []struct {
		a, b   open.Open
		ab, ba string
	}{
		{with(), with(), "-", "-"},
		{with(as), with(), "-", "-"}, {with(as), with(as), "as4", "as4"}, {with(as), with(cp(65, 0, 0, 1)), "-", "-"},
		{with(ext), with(), "-", "-"}, {with(ext), with(ext), "extended", "extended"}, {with(ext), with(cp(6, 0)), "-", "-"},
		{with(four), with(six), "-", "-"}, {with(four, six), with(six), "mp6", "mp6"}, {with(four, six), with(six, four), "mp4 mp6", "mp4 mp6"},
		{with(add(1, 1)), with(add(1, 1)), "-", "-"}, {with(add(1, 2)), with(add(1, 1)), "add4", "-"}, {with(add(1, 1)), with(add(1, 2)), "-", "add4"}, {with(add(1, 2)), with(add(1, 2)), "-", "-"},
		{with(add(1, 3)), with(add(1, 1)), "add4", "-"}, {with(add(1, 3)), with(add(1, 2)), "-", "add4"}, {with(add(1, 3)), with(add(1, 3)), "add4", "add4"}, {with(add(1, 3)), with(), "-", "-"},
		{with(add(2, 3)), with(add(2, 3)), "-", "-"}, {with(add(2, 3), six), with(add(2, 3)), "-", "-"}, {with(add(2, 3), six), with(add(2, 3), six), "mp6 add6", "mp6 add6"},
		{with(add(2, 2), six), with(six, add(2, 3)), "mp6 add6", "mp6"}, {with(add(2, 1), six), with(six, add(2, 3)), "mp6", "mp6 add6"}, {with(add(1, 3)), with(add(2, 3)), "-", "-"},
		{with(add(1, 4)), with(add(1, 3)), "-", "-"},
	} {
		ab, ba := negotiate.Between(c.a, c.b)
		if option.Text(ab) != c.ab || option.Text(ba) != c.ba {
			t.Error(i, option.Text(ab), option.Text(ba))
		}
		session := negotiate.Of(c.b, c.a)
		if session != (negotiate.Session{Out: ba, In: ab, Hold: 90}) {
			t.Error(i, session)
		}
		if got := negotiate.Text(c.a, c.b); got != c.ab+"/ "+c.ba+"/ hold 90" {
			t.Error(i, got)
		}
	}
}

func TestHold(t *testing.T) { // P22.1 and P22.3
	for _, c := range []struct {
		a, b, want int
		text       string
	}{{90, 30, 30, "-/ -/ hold 30"}, {30, 90, 30, "-/ -/ hold 30"}, {0, 90, 0, "-/ -/ hold 0"}, {90, 0, 0, "-/ -/ hold 0"}, {0, 0, 0, "-/ -/ hold 0"}, {3, 65535, 3, "-/ -/ hold 3"}} {
		a, b := open.Open{AS: 1, ID: 1, Hold: c.a}, open.Open{AS: 2, ID: 2, Hold: c.b}
		if negotiate.Hold(a, b) != c.want || negotiate.Of(a, b).Hold != c.want || negotiate.Text(a, b) != c.text {
			t.Error(c, negotiate.Text(a, b))
		}
	}
}

func TestInternalAndWinner(t *testing.T) { // P22.2
	for _, c := range []struct {
		as1, id1, as2, id2 uint32
		internal           bool
		winner             int
	}{
		{1, 5, 1, 5, true, 0}, {1, 6, 1, 5, true, 1}, {1, 5, 1, 6, true, 2}, {2, 5, 1, 5, false, 1}, {1, 5, 2, 5, false, 2}, {1, 6, 2, 5, false, 1}, {2, 5, 1, 6, false, 2},
		{1, 0xffffffff, 1, 1, true, 1}, {1, 1, 0xffffffff, 1, false, 2},
	} {
		a, b := open.Open{AS: c.as1, ID: c.id1}, open.Open{AS: c.as2, ID: c.id2}
		if negotiate.Internal(a, b) != c.internal || negotiate.Winner(a, b) != c.winner {
			t.Error(c, negotiate.Internal(a, b), negotiate.Winner(a, b))
		}
	}
}

func TestConsequences(t *testing.T) { // P22.4
	for _, a := range every() {
		for _, b := range every() {
			x, y := open.Make(a, 1, 90, 1), open.Make(b, 2, 90, 2)
			ab, ba := negotiate.Between(x, y)
			if !option.Valid(ab) || !option.Valid(ba) {
				t.Error(a, b, ab, ba)
			}
			if option.Valid(a) && option.Valid(b) && (ab != option.Both(a, b) || ba != ab) {
				t.Error(a, b, ab, ba)
			}
		}
	}
}
