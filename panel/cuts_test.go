package panel_test

import (
	"math"
	"slices"
	"testing"

	"codend/api"
	"codend/panel"
)

// below returns how many letters of a side lead to its first place in a row, and where that is; if there is none, the number is below 0.
func below(places []api.Knot, row int) (int, api.Knot) {
	for i, k := range places {
		if k.Y == row {
			return i, k
		}
	}
	return -1, api.Knot{}
}

// partsOf cuts a panel as the chapter says, if none of its steps leads over the row.
func partsOf(p panel.Panel, row int) ([2]panel.Panel, bool) {
	i, left := below(leftOf(p), row)
	j, right := below(rightOf(p), row)
	if i < 0 || j < 0 {
		return [2]panel.Panel{}, false
	}
	l, r := cutsOf(p.Left), cutsOf(p.Right)
	return [2]panel.Panel{
		named(p.Name, p.Width, plainSide(l[:i]), plainSide(r[:j])),
		named(p.Name, (right.X-left.X)/2, plainSide(l[i:]), plainSide(r[j:])),
	}, true
}

func TestCut(t *testing.T) {
	n := edges(in("N", 1))
	for _, row := range []struct {
		p     panel.Panel
		row   int
		parts [2]panel.Panel
	}{
		{named("a", 2, edges(in("N", 2)), edges(out("NBB", 1))), 2, [2]panel.Panel{named("a", 2, n, n), named("a", 2, n, edges(out("BB", 1)))}},
		{named("b", 3, edges(in("B", 2)), edges(out("BB", 1))), 1, [2]panel.Panel{named("b", 3, edges(in("B", 1)), edges(out("B", 1))), named("b", 3, edges(in("B", 1)), edges(out("B", 1)))}},
		// steps T in the row belong to the upper part, also those of several edges
		{named("c", 3, edges(in("NTN", 1)), edges(out("NT", 2))), 2, [2]panel.Panel{named("c", 3, n, n), named("c", 3, edges(in("TN", 1)), edges(out("TNT", 1)))}},
		{named("d", 4, edges(out("TNT", 1), in("T", 2), out("N", 1)), edges(out("TN", 1), in("N", 1))), 2,
			[2]panel.Panel{named("d", 4, edges(out("TN", 1)), edges(out("TN", 1))), named("d", 6, edges(out("T", 1), in("TTN", 1)), n)}},
		{named("e", 5, edges(in("B", 4)), edges(in("N", 2))), 2, [2]panel.Panel{named("e", 5, edges(in("BB", 1)), n), named("e", 4, edges(in("BB", 1)), n)}},
	} {
		parts, e := panel.Cut(row.p, row.row)
		want(t, "Cut", parts, row.parts)
		want(t, "Cut: error", e, api.OK)
	}
}

// TestCutByDefinition cuts panels in all of their rows.
func TestCutByDefinition(t *testing.T) {
	for _, p := range somePanels() {
		height := heightOf(p)
		for row := -1; row <= height+1; row++ {
			parts, ok := partsOf(p, row)
			e := api.OK
			switch {
			case row < 1 || row >= height:
				e = api.ErrRange
			case !ok:
				e = api.ErrRule
			case parts[1].Width > 128 || parts[1].Width < 1:
				e = api.ErrRange
			}
			if e != api.OK {
				parts = [2]panel.Panel{}
			}
			got, gotError := panel.Cut(p, row)
			want(t, "Cut of "+p.Name, got, parts)
			want(t, "Cut: error", gotError, e)
		}
	}
}

func TestCutErrors(t *testing.T) {
	n := edges(in("N", 1))
	mirrored := func(p panel.Panel) panel.Panel {
		return plainOf(p.Width, p.Right, p.Left)
	}
	raised := func(p panel.Panel) panel.Panel {
		return plainOf(p.Width, append(slices.Clone(n), p.Left...), append(slices.Clone(n), p.Right...))
	}
	for _, row := range []struct {
		p   panel.Panel
		row int
		e   api.Errno
	}{
		{wing(), 1, api.ErrRule},
		{wing(), 0, api.ErrRange},
		{wing(), 2, api.ErrRange},
		{wing(), -1, api.ErrRange},
		{wing(), math.MaxInt, api.ErrRange},
		{wing(), math.MinInt, api.ErrRange},
		{mirrored(wing()), 1, api.ErrRule},
		{plainOf(2, edges(in("N", 2)), edges(in("N", 2))), 1, api.ErrRule},
		{plainOf(2, edges(in("N", 2)), edges(in("N", 2))), 2, api.OK},
		{plainOf(2, edges(in("N", 2)), edges(in("N", 2))), 3, api.ErrRule},
		{plainOf(1, n, edges(out("B", 1), in("B", 1))), 1, api.ErrRule},
		{plainOf(1, edges(out("B", 1)), edges(out("B", 1))), 1, api.ErrRange},
		{plainOf(1, edges(out("B", 1)), edges(out("B", 1))), 0, api.ErrRange},
		// an upper part that is too wide
		{plainOf(127, edges(out("BB", 1)), edges(out("BB", 1))), 1, api.OK},
		{plainOf(128, edges(out("BB", 1)), edges(out("BB", 1))), 1, api.ErrRange},
		{plainOf(65, edges(in("N", 2)), edges(out("T", 63), in("N", 2))), 2, api.OK},
		{plainOf(65, edges(in("N", 2)), edges(out("T", 64), in("N", 2))), 2, api.ErrRange},
		// steps N that lead over the row come before it
		{plainOf(128, edges(out("BN", 1)), edges(out("BBB", 1))), 2, api.ErrRule},
		// an upper part with 64 groups on one side in plain form, and with 65
		{raised(crowd(out(letters("T", 38), 5))), 2, api.OK},
		{raised(crowd(out(letters("T", 64), 3))), 2, api.ErrMany},
		{mirrored(raised(crowd(out(letters("T", 64), 3)))), 2, api.ErrMany},
		// a lower part likewise
		{crowd(out(letters("B", 38), 5), in("N", 1)), 252, api.OK},
		{crowd(out(letters("B", 64), 3), in("N", 1)), 254, api.ErrMany},
		{mirrored(crowd(out(letters("B", 64), 3), in("N", 1))), 254, api.ErrMany},
		{crowd(out(letters("T", 64), 3), in("N", 1)), 62, api.OK},
		// the lower part decides before the upper one, which is too wide
		{crowd(out(letters("T", 64), 3), in("N", 2)), 64, api.ErrMany},
		{crowd(out(letters("T", 38), 5), in("N", 2)), 64, api.ErrRange},
	} {
		want(t, "CheckPanel", panel.CheckPanel(row.p), api.OK)
		parts, e := panel.Cut(row.p, row.row)
		want(t, "Cut: error", e, row.e)
		want(t, "Cut: nothing beside an error", parts[0].Name == "" && parts[1].Name == "", row.e != api.OK)
	}
}

func TestCutOfBadPanels(t *testing.T) {
	for _, bad := range badPanels() {
		for _, row := range []int{1, 0, -1, 2, 1000} {
			parts, e := panel.Cut(bad.p, row)
			want(t, "Cut", parts, [2]panel.Panel{})
			want(t, "Cut: error", e, bad.e)
		}
	}
}
