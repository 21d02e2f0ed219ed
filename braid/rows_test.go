package braid_test

import (
	"testing"

	"codend/api"
	"codend/braid"
)

// ragged are nets that do not hang together in rows, or have no bars, with their errors.
func ragged() []judged[[]api.Bar] {
	return []judged[[]api.Bar]{
		{nil, api.ErrEmpty},
		{bars(), api.ErrEmpty},
		{bars(bar(0, 0, 1), bar(4, 0, 1)), api.ErrApart},
		{bars(bar(0, 0, 1), bar(4, 0, -1)), api.ErrApart},
		{bars(bar(0, 0, -1), bar(2, 0, -1)), api.ErrApart},
		{bars(bar(0, 0, 1), bar(2, 0, 1)), api.ErrApart},
		{bars(bar(0, 0, 1), bar(0, 2, 1)), api.ErrApart},
		{bars(bar(0, 0, 1), bar(1, 1, 1), bar(2, 4, 1)), api.ErrApart},
		{bars(bar(0, 0, 1), bar(1, 1, 1), bar(1, 3, 1)), api.ErrApart},
		{bars(bar(0, 0, 1), bar(1, 1, -1), bar(3, 1, -1)), api.ErrApart},
		{bars(bar(0, 0, 1), bar(1, 1, 1), bar(1, 3, 1), bar(9, 3, 1)), api.ErrApart},
		{bars(bar(0, 0, 1), bar(4, 0, 1), bar(1, 1, 1)), api.ErrApart},
	}
}

func TestRows(t *testing.T) {
	for _, x := range []struct {
		net []api.Bar
		l   []braid.Row
	}{
		{example(), []braid.Row{row(0, 0, 3), row(1, 0, 3)}},
		{example()[:5], []braid.Row{row(0, 0, 3), row(1, 0, 2)}},
		{example()[1:4], []braid.Row{row(0, 1, 3), row(1, 0, 1)}},
		{bars(bar(0, 0, 1)), []braid.Row{row(0, 0, 1)}},
		{bars(bar(0, 0, -1)), []braid.Row{row(0, -1, 0)}},
		{bars(bar(0, 0, -1), bar(0, 0, 1)), []braid.Row{row(0, -1, 1)}},
		{bars(bar(0, -2, 1), bar(9, -1, 1)), []braid.Row{row(-2, 0, 1), row(-1, 9, 10)}},
		{bars(bar(-1, -1, -1), bar(-1, -1, 1), bar(1, -1, -1), bar(0, 0, 1), bar(-1, 1, 1)), []braid.Row{row(-1, -2, 1), row(0, 0, 1), row(1, -1, 0)}},
	} {
		l, e := braid.Rows(x.net)
		want(t, "Rows", l, x.l)
		want(t, "Rows: error", e, api.OK)
	}
}

func TestGains(t *testing.T) {
	for _, x := range []struct {
		net []api.Bar
		l   [][2]int
	}{
		{example(), [][2]int{{0, 0}}},
		{example()[:5], [][2]int{{0, -1}}},
		{example()[1:], [][2]int{{-1, 0}}},
		{example()[:3], nil},
		{bars(bar(0, -2, 1), bar(9, -1, 1), bar(0, 0, -1), bar(0, 0, 1)), [][2]int{{9, 9}, {-10, -9}}},
	} {
		l, e := braid.Gains(x.net)
		want(t, "Gains", l, x.l)
		want(t, "Gains: error", e, api.OK)
	}
}

func TestErrorsOfRows(t *testing.T) {
	for _, x := range ragged() {
		rows, e := braid.Rows(x.x)
		wantOnly(t, "Rows", rows, e, x.e)
		l, e := braid.Compile(x.x)
		wantOnly(t, "Compile", l, e, x.e)
		gains, e := braid.Gains(x.x)
		wantOnly(t, "Gains", gains, e, x.e)
		want(t, "CheckCompiled needs no rows", braid.CheckCompiled(x.x, zigzag()), api.ErrProof)
	}
}

// TestRowsByDefinition takes bars from nets that hang together, or adds some.
func TestRowsByDefinition(t *testing.T) {
	count := map[api.Errno]int{}
	nets(7, 4000, 9, func(d *dice, net []api.Bar) {
		for range d.below(3) {
			i := d.below(len(net))
			if len(net) > 1 && d.flip() {
				net = append(net[:i:i], net[i+1:]...)
				continue
			}
			more := net[i]
			more.X += d.below(5)*2 - 4
			more.Y += d.below(2) * 2
			if d.flip() {
				more.Side = -more.Side
			}
			changed := inOrder(append(net[:len(net):len(net)], more))
			if !isTwice(changed) {
				net = changed
			}
		}
		wanted, ok := rowsOf(net)
		rows, e := braid.Rows(net)
		gains, gainsError := braid.Gains(net)
		want(t, "Gains: error", gainsError, e)
		count[e]++
		if !ok {
			wantOnly(t, "Rows", rows, e, api.ErrApart)
			wantOnly(t, "Gains", gains, e, api.ErrApart)
			return
		}
		want(t, "Rows", rows, wanted)
		want(t, "Rows: error", e, api.OK)
		want(t, "how many gains", len(gains), len(wanted)-1)
		for i, g := range gains {
			want(t, "a gain", g, [2]int{wanted[i+1].First - wanted[i].First, wanted[i+1].Last - wanted[i].Last})
		}
	})
	if count[api.OK] < 1000 || count[api.ErrApart] < 1000 {
		t.Errorf("too few nets of a sort: %v", count)
	}
}

// isTwice reports whether a bar stands twice in a list that is in order.
func isTwice(net []api.Bar) bool {
	for i := range net[1:] {
		if net[i] == net[i+1] {
			return true
		}
	}
	return false
}
