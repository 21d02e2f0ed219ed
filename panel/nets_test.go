package panel_test

import (
	"fmt"
	"slices"
	"testing"

	"codend/api"
	"codend/netting"
	"codend/panel"
)

func TestNet(t *testing.T) {
	net, e := panel.Net(wing())
	want(t, "Net", net, []api.Bar{bar(0, 0, 1), bar(2, 0, -1), bar(2, 0, 1), bar(4, 0, -1), bar(4, 0, 1), bar(1, 1, -1), bar(1, 1, 1), bar(3, 1, -1), bar(3, 1, 1), bar(5, 1, -1), bar(5, 1, 1)})
	want(t, "Net: error", e, api.OK)
	net, _ = panel.Net(plainOf(1, edges(in("N", 1)), edges(in("N", 1))))
	want(t, "Net of a mesh", net, []api.Bar{bar(0, 0, 1), bar(2, 0, -1), bar(1, 1, -1), bar(1, 1, 1)})
	net, _ = panel.Net(plainOf(3, edges(in("BTB", 1)), edges(in("N", 1))))
	want(t, "Net with a step", net, []api.Bar{bar(0, 0, 1), bar(2, 0, -1), bar(2, 0, 1), bar(4, 0, -1), bar(4, 0, 1), bar(6, 0, -1), bar(3, 1, 1), bar(5, 1, -1), bar(5, 1, 1)})
	net, _ = panel.Net(plainOf(1, edges(out("B", 1)), edges(out("B", 1))))
	want(t, "Net of one strip", net, []api.Bar{bar(0, 0, -1), bar(0, 0, 1), bar(2, 0, -1), bar(2, 0, 1)})
}

func TestNetByDefinition(t *testing.T) {
	for _, p := range somePanels() {
		net, e := panel.Net(p)
		want(t, "Net of "+p.Name, net, netOf(p))
		want(t, "Net: error", e, api.OK)
		want(t, "CheckNet", netting.CheckNet(net), api.OK)
	}
}

// straight returns a panel with straight sides, twice as many rows as the height says.
func straight(width, height int) panel.Panel {
	return plainOf(width, edges(in("N", height)), edges(in("N", height)))
}

func TestRows(t *testing.T) {
	for _, row := range []struct {
		p panel.Panel
		l [][2]int
	}{
		{wing(), [][2]int{{0, 4}, {1, 5}, {0, 6}}},
		{straight(2, 1), [][2]int{{0, 4}, {1, 3}, {0, 4}}},
		{plainOf(3, edges(in("BTB", 1)), edges(in("N", 1))), [][2]int{{0, 6}, {1, 5}, {4, 6}}},
		{plainOf(3, edges(out("TB", 1)), edges(in("BT", 1))), [][2]int{{-2, 6}, {-3, 5}}},
		{plainOf(3, edges(in("T", 1), out("T", 1), in("B", 1)), edges(in("B", 1), in("T", 1))), [][2]int{{0, 6}, {1, 5}}},
	} {
		l, e := panel.Rows(row.p)
		want(t, "Rows", l, row.l)
		want(t, "Rows: error", e, api.OK)
	}
}

// TestRowsByDefinition takes the rows from the ends of all bars.
func TestRowsByDefinition(t *testing.T) {
	for _, p := range somePanels() {
		places := make([][]int, heightOf(p)+1)
		for _, b := range netOf(p) {
			places[b.Y] = append(places[b.Y], b.X)
			places[b.Y+1] = append(places[b.Y+1], b.X+b.Side)
		}
		var wanted [][2]int
		for _, row := range places {
			wanted = append(wanted, [2]int{slices.Min(row), slices.Max(row)})
		}
		l, e := panel.Rows(p)
		want(t, "Rows of "+p.Name, l, wanted)
		want(t, "Rows: error", e, api.OK)
	}
}

func TestAround(t *testing.T) {
	for _, row := range []struct {
		p panel.Panel
		f panel.Frame
	}{
		{wing(), panel.Frame{At: knot(0, 0), Columns: 3, Rows: 2}},
		{straight(128, 64), panel.Frame{At: knot(0, 0), Columns: 128, Rows: 128}},
		{plainOf(1, edges(out("B", 1)), edges(out("B", 1))), panel.Frame{At: knot(-2, 0), Columns: 3, Rows: 1}},
		{plainOf(1, edges(out("B", 2)), edges(out("B", 2))), panel.Frame{At: knot(-2, 0), Columns: 3, Rows: 2}},
		{plainOf(1, edges(out("B", 3)), edges(in("N", 1), out("B", 1))), panel.Frame{At: knot(-4, 0), Columns: 4, Rows: 3}},
		// what leads out and back counts for the frame, although no bar is there
		{plainOf(2, edges(out("T", 2), in("T", 2), in("N", 1)), edges(in("N", 1), out("T", 1), in("T", 1))), panel.Frame{At: knot(-4, 0), Columns: 5, Rows: 2}},
		{plainOf(5, edges(in("B", 3)), edges(in("B", 3))), panel.Frame{At: knot(0, 0), Columns: 5, Rows: 3}},
	} {
		f, e := panel.Around(row.p)
		want(t, "Around", f, row.f)
		want(t, "Around: error", e, api.OK)
	}
	_, e := panel.Around(straight(128, 64))
	want(t, "Around has no limit for bars", e, api.OK)
}

// TestAroundByDefinition looks for the least frame by trying.
func TestAroundByDefinition(t *testing.T) {
	for _, p := range somePanels() {
		f := panel.Frame{Rows: heightOf(p)}
		reach := func(x int) bool { return f.At.X <= x && x <= f.At.X+2*f.Columns }
		for _, k := range append(leftOf(p), rightOf(p)...) {
			for k.X < f.At.X {
				f.At.X -= 2
			}
		}
		for _, k := range append(leftOf(p), rightOf(p)...) {
			for !reach(k.X) {
				f.Columns++
			}
		}
		got, e := panel.Around(p)
		want(t, "Around "+p.Name, got, f)
		want(t, "Around: error", e, api.OK)
	}
}

func TestRest(t *testing.T) {
	for _, row := range []struct {
		p panel.Panel
		l []api.Bar
	}{
		{wing(), []api.Bar{bar(6, 0, -1)}},
		{straight(3, 2), nil},
		{plainOf(1, edges(out("B", 1)), edges(out("B", 1))), []api.Bar{bar(-2, 0, 1), bar(4, 0, -1)}},
		{plainOf(2, edges(out("T", 1), in("T", 1), in("N", 1)), edges(in("N", 1))), []api.Bar{bar(-2, 0, 1), bar(0, 0, -1), bar(-1, 1, -1), bar(-1, 1, 1)}},
	} {
		l, e := panel.Rest(row.p)
		want(t, "Rest", l, row.l)
		want(t, "Rest: error", e, api.OK)
	}
	for _, p := range somePanels() {
		f, _ := panel.Around(p)
		sheet, e := netting.Sheet(f.At, f.Columns, f.Rows)
		if e != api.OK {
			continue // TestNetsOfManyBars has these
		}
		net := netOf(p)
		sheet = slices.DeleteFunc(sheet, func(b api.Bar) bool { return slices.Contains(net, b) })
		l, e := panel.Rest(p)
		want(t, "Rest of "+p.Name, l, sheet)
		want(t, "Rest: error", e, api.OK)
	}
}

// tongue returns a panel with two or more rows whose left side leads out in its first row by some meshes, and back.
func tongue(width, meshes, height int) panel.Panel {
	there, back := out(letters("T", meshes/2), 1), in(letters("T", meshes/2), 1)
	left := edges(there, there, back, back)
	if meshes%2 == 1 {
		left = edges(there, there, out("T", 1), back, back, in("T", 1))
	}
	return plainOf(width, append(left, in("N", height)), edges(in("N", height)))
}

func TestNetsOfManyBars(t *testing.T) {
	sevens := edges(in("N", 7))
	dent, twice, bulge := edges(in("N", 7), in("B", 1), out("B", 1)), edges(in("N", 7), in("BB", 1)), edges(in("N", 7), out("B", 1), in("B", 1))
	for i, row := range []struct {
		p         panel.Panel
		bars      int
		net, rest api.Errno
	}{
		{straight(128, 8), 4096, api.OK, api.OK},
		{straight(64, 16), 4096, api.OK, api.OK},
		{plainOf(128, sevens, sevens), 3584, api.OK, api.OK},
		{plainOf(128, dent, dent), 4096, api.OK, api.OK},
		{plainOf(128, dent, twice), 4095, api.OK, api.OK},
		{plainOf(128, bulge, twice), 4097, api.ErrMany, api.ErrMany},
		{plainOf(128, bulge, dent), 4098, api.ErrMany, api.ErrMany},
		{straight(128, 9), 4608, api.ErrMany, api.ErrMany},
		{straight(64, 17), 4352, api.ErrMany, api.ErrMany},
		{straight(128, 64), 32768, api.ErrMany, api.ErrMany},
		// frames with 256 and with 257 columns
		{tongue(128, 128, 1), 512, api.OK, api.OK},
		{tongue(128, 129, 1), 512, api.OK, api.ErrMany},
		// frames with 4096 bars and with more
		{tongue(128, 128, 4), 2048, api.OK, api.OK},
		{tongue(128, 128, 5), 2560, api.OK, api.ErrMany},
		{tongue(100, 28, 8), 3200, api.OK, api.OK},
		{tongue(100, 29, 8), 3200, api.OK, api.ErrMany},
	} {
		want(t, "CheckPanel", panel.CheckPanel(row.p), api.OK)
		want(t, "bars", len(netOf(row.p)), row.bars)
		net, e := panel.Net(row.p)
		want(t, "Net: error", e, row.net)
		want(t, "Net: nothing beside an error", len(net) > 0, row.net == api.OK)
		l, e := panel.Rows(row.p)
		want(t, "Rows: error", e, row.net)
		want(t, "Rows: nothing beside an error", len(l) > 0, row.net == api.OK)
		rest, e := panel.Rest(row.p)
		want(t, fmt.Sprintf("Rest of the panel %d: error", i), e, row.rest)
		want(t, "Rest: nothing beside an error", e != api.OK && len(rest) > 0, false)
	}
}

func TestNetFunctionsOfBadPanels(t *testing.T) {
	for _, bad := range badPanels() {
		net, e := panel.Net(bad.p)
		want(t, "Net", net, []api.Bar(nil))
		want(t, "Net: error", e, bad.e)
		rows, e := panel.Rows(bad.p)
		want(t, "Rows", rows, [][2]int(nil))
		want(t, "Rows: error", e, bad.e)
		f, e := panel.Around(bad.p)
		want(t, "Around", f, panel.Frame{})
		want(t, "Around: error", e, bad.e)
		net, e = panel.Rest(bad.p)
		want(t, "Rest", net, []api.Bar(nil))
		want(t, "Rest: error", e, bad.e)
	}
}
